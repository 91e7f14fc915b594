/-
  KeyRefAdd.
-/
import Derived.Test.YtbgoooljkdjjhaaGreatDoorQKeyRefForm
import Derived.Test.YtbgoooljkdjjhaaGreatDoorQKeyAdds
import Derived.Test.YtbgoooljkdjjhaaGreatDoorQValueRefParse
import Derived.Test.YtbgoooljkdjjhaaGreatDoorQValueRefWithin
import Derived.Test.YtbgoooljkdjjhaaGreatDoorQBut
import Derived.Deep.AppendLies
namespace Go.Proofs.YtbgoooljkdjjhaaGreatDoor
open Go.ChangeShapes Go.WideShapes Go.ChangeAt Go.RowKit

/-- What the document's own Add leaves. -/
def addR (ys : List KeyV) (k : KeyV) : List KeyV := if addE ys k = 0 then ys ++ [k] else ys
theorem hasK_perm {xs ys : List KeyV} (h : ys.Perm xs) (nm : ByteArray) : hasK ys nm = hasK xs nm := by
  unfold hasK
  rw [Bool.eq_iff_iff, List.any_eq_true, List.any_eq_true]
  constructor
  · rintro ⟨x, hx, hp⟩; exact ⟨x, h.mem_iff.1 hx, hp⟩
  · rintro ⟨x, hx, hp⟩; exact ⟨x, h.mem_iff.2 hx, hp⟩
theorem letter_perm {xs ys : List KeyV} (h : ys.Perm xs) (l : ByteArray) : (letterK ys l).isSome = (letterK xs l).isSome := by
  unfold letterK
  rw [Bool.eq_iff_iff, List.find?_isSome, List.find?_isSome]
  constructor
  · rintro ⟨x, hx, hp⟩; exact ⟨x, h.mem_iff.1 hx, hp⟩
  · rintro ⟨x, hx, hp⟩; exact ⟨x, h.mem_iff.2 hx, hp⟩
theorem addE_perm {xs ys : List KeyV} (h : ys.Perm xs) (k : KeyV) : addE ys k = addE xs k := by
  unfold addE
  rw [hasK_perm h, letter_perm h, h.length_eq]
theorem addR_perm {xs ys : List KeyV} (h : ys.Perm xs) (k : KeyV) : (addR ys k).Perm (addK xs k) := by
  unfold addR addK
  rw [addE_perm h]
  split
  · unfold insK
    refine List.Perm.trans ?_ List.perm_middle.symm
    rw [List.take_append_drop]
    exact (List.perm_append_singleton k ys).trans (h.cons k)
  · exact h
theorem find_has (xs : List KeyV) (nm : ByteArray) : (findK xs nm).isSome = hasK xs nm := by
  unfold findK hasK
  rw [Bool.eq_iff_iff, List.find?_isSome, List.any_eq_true]

theorem parse_bad (k : Int) (s : ByteArray) (h : (parseV k s).2 ≠ 0) : (parseV k s).1 = zeroV := by
  have hio : ∀ (k : Int) (p : Int × Int), (intOk k p).2 ≠ 0 → (intOk k p).1 = zeroV := fun k p h => by
    unfold intOk at h ⊢
    split
    · rename_i hc; rw [if_pos hc] at h; exact absurd rfl h
    · rfl
  unfold parseV at h ⊢
  split
  · rename_i hc; rw [if_pos hc] at h; exact hio _ _ h
  · rename_i hc
    rw [if_neg hc] at h
    split
    · rename_i hc; rw [if_pos hc] at h; exact hio _ _ h
    · rename_i hc
      rw [if_neg hc] at h
      split
      · rename_i hc; rw [if_pos hc] at h; exact hio _ _ h
      · rename_i hc
        rw [if_neg hc] at h
        split
        · rename_i hc
          rw [if_pos hc] at h
          split
          · rename_i ht; rw [if_pos ht] at h; exact absurd rfl h
          · rfl
        · rename_i hc
          rw [if_neg hc] at h
          split
          · rename_i hc
            rw [if_pos hc] at h
            split
            · rename_i ht; rw [if_pos ht] at h; exact absurd rfl h
            · rfl
          · rfl
/-- What Parse gives may be handed on. -/
theorem parse_arg {w : World} {k : Int} {s : ByteArray} {x : Option Addr} {c : Nat} (hr : (parseV k s).1.words.length ≤ c) (ht : Txts w x (parseV k s).1.words) : ArgOk w (parseV k s).1 x c ∧ (parseV k s).1.words.length ≤ 2147483647 := by
  by_cases h : (parseV k s).2 = 0
  · obtain ⟨b1, b2, b3⟩ := right_bounds (read_right h).1
    exact ⟨⟨ht, hr, by omega, (fun k h => Nat.le_trans (b2 k h) (by decide)), Nat.le_trans b3 (by decide)⟩, by omega⟩
  · have hz := parse_bad k s h
    rw [hz] at hr ht ⊢
    exact ⟨⟨ht, hr, by decide, (fun k h => absurd h (by simp [zeroV])), by decide⟩, by decide⟩

set_option maxHeartbeats 1600000 in
set_option maxRecDepth 100000 in
theorem refDefault_any (k : KeyV) (w : World) (hs : k.dflt.size ≤ 2147483647) :
    Calls Tryz.prog 64 #[kAgg k] w fun e w' => e = .returned (.bool (dfltK k)) ∧ Below w.heap.size w w' := by
  obtain ⟨nm, kd, dl, a, b, le⟩ := k
  have HW : Hid (∀ o, Below w.heap.size w (w.alloc o)) := Lib.hid (below_one w)
  have HP : Hid (∀ o, Calls Tryz.prog 89 #[.int .i64 kd, .string dl] (w.alloc o) fun e w' => Below (w.alloc o).heap.size (w.alloc o) w' ∧ ∃ x c, e = .returned (.tuple #[.agg #[.int .i64 (parseV kd dl).1.kind, .int .i64 (parseV kd dl).1.int, .string (parseV kd dl).1.text, .slice x (parseV kd dl).1.words.length c], .int .i64 (parseV kd dl).2]) ∧
      ∀ W, Below w'.heap.size w' W → Calls Tryz.prog 90 #[.agg #[.int .i64 (parseV kd dl).1.kind, .int .i64 (parseV kd dl).1.int, .string (parseV kd dl).1.text, .slice x (parseV kd dl).1.words.length c], .int .i64 a, .int .i64 b] W fun e w' => e = .returned (.bool (withinV (parseV kd dl).1 a b)) ∧ Below W.heap.size W w') := Lib.hid fun o => by
    refine (refParse_any kd dl _ hs).mono ?_
    rintro e w' ⟨hb, x, c, rfl, hc, ht, _⟩
    obtain ⟨ha, hl⟩ := parse_arg hc ht
    exact ⟨hb, x, c, rfl, fun W hb2 => refWithin_any W _ x c a b (ha.below hb2) hl⟩
  have HD : Hid (dfltK ⟨nm, kd, dl, a, b, le⟩ = (decide ((parseV kd dl).2 = 0) && withinV (parseV kd dl).1 a b)) := Lib.hid rfl
  obtain ⟨r, hr⟩ : ∃ r, dfltK ⟨nm, kd, dl, a, b, le⟩ = r := ⟨_, rfl⟩
  rw [hr] at HD ⊢
  obtain ⟨Wn, hWn⟩ : ∃ Wn, withinV (parseV kd dl).1 a b = Wn := ⟨_, rfl⟩
  rw [hWn] at HP HD
  obtain ⟨p, hp⟩ : ∃ p, parseV kd dl = p := ⟨_, rfl⟩
  rw [hp] at HP HD
  obtain ⟨⟨vk, vn, vt, vw⟩, er⟩ := p
  simp only at HP HD
  obtain ⟨m, hm⟩ : ∃ m, vw.length = m := ⟨_, rfl⟩
  rw [hm] at HP
  unfold kAgg
  clear hr hp hs hWn hm
  by_cases he : er = 0
  · rw [decide_eq_true he, Bool.true_and] at HD
    subst he
    go_enter Tryz.func64, Tryz.ntmps64
    go_wp2_with fail
    refine (HP.out _).mono ?_
    rintro e w1 ⟨hb1, x, c, rfl, hwi⟩
    have HWI := Lib.hid hwi
    have hbx := (box6_new w ⟨nm, kd, dl, a, b, le⟩ _).below hb1
    have c3 : ∀ o, (w1.alloc o).cell? ⟨w.heap.size, 3, none⟩ = some (.int .i64 a) := fun o => (hbx.below (below_one w1 o)).c3
    have c4 : ∀ o, (w1.alloc o).cell? ⟨w.heap.size, 4, none⟩ = some (.int .i64 b) := fun o => (hbx.below (below_one w1 o)).c4
    have HB1 : Hid (∀ o, Below w.heap.size w (w1.alloc o)) := Lib.hid fun o => ((HW.out _).trans (hb1.mono (HW.out _).size)).trans ((below_one w1 o).mono (Nat.le_trans (HW.out _).size hb1.size))
    have HA : Hid (∀ o, Below w1.heap.size w1 (w1.alloc o)) := Lib.hid (below_one w1)
    clear hb1 hwi hbx
    go_wp2_with fail
    refine (HWI.out _ (HA.out _)).mono ?_
    rintro e w2 ⟨rfl, hb2⟩
    have HB2 := Lib.hid ((HB1.out _).trans (hb2.mono (HB1.out _).size))
    clear hb2
    go_wp2
    go_ret
    exact ⟨by rw [HD.out]; first | done | rfl, HB2.out⟩
  · have d0 : (er == 0) = false := beq_eq_false_iff_ne.2 he
    rw [decide_eq_false he, Bool.false_and] at HD
    clear he
    go_enter Tryz.func64, Tryz.ntmps64
    go_wp2_with fail
    refine (HP.out _).mono ?_
    rintro e w1 ⟨hb1, x, c, rfl, hwi⟩
    have HWI := Lib.hid hwi
    have hbx := (box6_new w ⟨nm, kd, dl, a, b, le⟩ _).below hb1
    have c3 : ∀ o, (w1.alloc o).cell? ⟨w.heap.size, 3, none⟩ = some (.int .i64 a) := fun o => (hbx.below (below_one w1 o)).c3
    have c4 : ∀ o, (w1.alloc o).cell? ⟨w.heap.size, 4, none⟩ = some (.int .i64 b) := fun o => (hbx.below (below_one w1 o)).c4
    have HB1 : Hid (∀ o, Below w.heap.size w (w1.alloc o)) := Lib.hid fun o => ((HW.out _).trans (hb1.mono (HW.out _).size)).trans ((below_one w1 o).mono (Nat.le_trans (HW.out _).size hb1.size))
    have HA : Hid (∀ o, Below w1.heap.size w1 (w1.alloc o)) := Lib.hid (below_one w1)
    clear hb1 hwi hbx
    go_wp2_with fail
    refine (HWI.out _ (HA.out _)).mono ?_
    rintro e w2 ⟨rfl, hb2⟩
    have HB2 := Lib.hid ((HB1.out _).trans (hb2.mono (HB1.out _).size))
    clear hb2
    go_wp2
    go_ret
    exact ⟨by rw [HD.out]; first | done | rfl, HB2.out⟩

/-- The document's own list of definitions in memory: a row of the call's own. -/
structure RefAt (B : Nat) (w : World) (S : Nat) (v : Value) (ys : List KeyV) : Prop where
  cell : w.cell? ⟨S, 0, none⟩ = some v
  free : w.frozen? ⟨S, 0, none⟩ = false
  own : w.ownsRow B 57 6 v ys.length (flat ys)
  ne : v.ownBlock ≠ some S
  none_ : ys = [] → v = .slice none 0 0
  new : B ≤ S
theorem RefAt.lt {B : Nat} {w : World} {S : Nat} {v : Value} {ys : List KeyV} (h : RefAt B w S v ys) : S < w.heap.size := lt_of_cell h.cell
theorem RefAt.set {B : Nat} {w : World} {S : Nat} {v : Value} {ys : List KeyV} (h : RefAt B w S v ys) : ∃ x c, v = .slice x ys.length c ∧ SetAt w S x c ys := by
  rcases h.own.2 with ⟨h1, h2⟩ | ⟨g, cap, cur, h1, _, hg, hnc, _, _, htk⟩
  · have he : ys = [] := List.eq_nil_of_length_eq_zero h2
    subst he
    exact ⟨none, 0, h1, ⟨by rw [h.cell, h1]; rfl, Keys.nil_ _ _, Nat.le_refl _, fun _ => ⟨rfl, rfl⟩, h.free⟩⟩
  · refine ⟨_, cap, h1, ⟨by rw [h.cell, h1], Keys.of_block (t := 57) (fr := (0, 0)) hg fun j u hu => ?_, hnc, fun e => ?_, h.free⟩⟩
    · rw [← htk, List.getElem?_take] at hu
      split at hu
      · rw [Array.getElem?_toList] at hu; exact hu
      · cases hu
    · have := h.none_ e
      rw [h1] at this
      cases this
/-- All memory that was there stays, but for the list's block and its row. -/
def RFr (S : Nat) (v : Value) (w w' : World) : Prop := w'.os = w.os ∧ w'.tape = w.tape ∧ w'.output = w.output ∧ w.heap.size ≤ w'.heap.size ∧ ∀ q, q < w.heap.size → q ≠ S → v.ownBlock ≠ some q → w'.heap[q]? = w.heap[q]?
theorem RefAt.keep {B : Nat} {w w' : World} {S : Nat} {v : Value} {ys : List KeyV} (h : RefAt B w S v ys) (hb : Below w.heap.size w w') : RefAt B w' S v ys :=
  ⟨(hb.cell (p := ⟨S, 0, none⟩) h.lt).trans h.cell, (hb.frozen (p := ⟨S, 0, none⟩) h.lt).trans h.free, h.own.kept (row := none) ⟨hb.os, hb.tape, hb.output, hb.size, fun k hk _ => hb.block k hk⟩ (by cases hv : v.ownBlock <;> simp), h.ne, h.none_, h.new⟩

theorem below6 {B g : Nat} {w W : World} (h : Below B w W) (hg : B ≤ g) (a b c d e f : Value) : Below B w ((((((W.setCell ⟨g, 0, none⟩ a).setCell ⟨g, 1, none⟩ b).setCell ⟨g, 2, none⟩ c).setCell ⟨g, 3, none⟩ d).setCell ⟨g, 4, none⟩ e).setCell ⟨g, 5, none⟩ f) :=
  (((((h.setCell (p := ⟨g, 0, none⟩) hg _).setCell (p := ⟨g, 1, none⟩) hg _).setCell (p := ⟨g, 2, none⟩) hg _).setCell (p := ⟨g, 3, none⟩) hg _).setCell (p := ⟨g, 4, none⟩) hg _).setCell (p := ⟨g, 5, none⟩) hg _
theorem flat1 (k : KeyV) : flat [k] = kCells k := by unfold flat; simp
/-- The end of Add: one more in the row, the row in its list. -/
theorem ref_fin {B S n : Nat} {w W W2 : World} {v v2 : Value} {ys : List KeyV} {k : KeyV} (h : RefAt B w S v ys) (hb : Below w.heap.size w W) (ho : W2.ownsRow B 57 6 v2 n (flat (ys ++ [k]))) (hn : (ys ++ [k]).length = n) (hg : W.grownBy W2 v.ownBlock) (hl : v.ownBlock = v2.ownBlock ∨ ∃ g, v2.ownBlock = some g ∧ W.heap.size ≤ g) :
    RefAt B (W2.setCell ⟨S, 0, none⟩ v2) S v2 (ys ++ [k]) ∧ RFr S v w (W2.setCell ⟨S, 0, none⟩ v2) ∧ (v2.ownBlock = v.ownBlock ∨ ∃ g, v2.ownBlock = some g ∧ w.heap.size ≤ g) := by
  subst hn
  have hS := h.lt
  have hSW : S < W.heap.size := Nat.lt_of_lt_of_le hS hb.size
  have hSk : W2.heap[S]? = W.heap[S]? := hg.block S hSW (fun e => h.ne e.symm)
  have hne : v2.ownBlock ≠ some S := by
    rcases hl with e | ⟨g, e, hle⟩
    · rw [← e]; exact h.ne
    · rw [e]; intro e2; injection e2 with e2; omega
  have hcW : W2.cell? ⟨S, 0, none⟩ = some v := by
    have : W2.cell? ⟨S, 0, none⟩ = W.cell? ⟨S, 0, none⟩ := by unfold World.cell?; rw [hSk]
    rw [this, hb.cell (p := ⟨S, 0, none⟩) hS]; exact h.cell
  have hfW : W2.frozen? ⟨S, 0, none⟩ = false := by
    have : W2.frozen? ⟨S, 0, none⟩ = W.frozen? ⟨S, 0, none⟩ := by unfold World.frozen?; rw [hSk]
    rw [this, hb.frozen (p := ⟨S, 0, none⟩) hS]; exact h.free
  refine ⟨⟨World.cell?_setCell_same _ _ _ hcW, by rw [World.frozen?_setCell]; exact hfW, ?_, hne, fun e => absurd e (by simp), h.new⟩, ⟨?_, ?_, ?_, ?_, fun q hq h1 h2 => ?_⟩, ?_⟩
  · exact ho.kept (row := some S) ⟨rfl, rfl, rfl, by simp [World.setCell], fun q hq hne => Below.heap_setCell _ ⟨S, 0, none⟩ _ _ (fun e => hne (by rw [e]))⟩ (.inr (fun e => hne e))
  · exact hg.os.trans hb.os
  · exact hg.tape.trans hb.tape
  · exact hg.output.trans hb.output
  · have := hg.size; have := hb.size; simp [World.setCell]; omega
  · rw [Below.heap_setCell _ ⟨S, 0, none⟩ _ _ h1, hg.block q (Nat.lt_of_lt_of_le hq hb.size) (fun e => h2 e.symm)]
    exact hb.block q hq
  · rcases hl with e | ⟨g, e, hle⟩
    · exact .inl e.symm
    · exact .inr ⟨g, e, Nat.le_trans hb.size hle⟩

/-- One definition more, as a step of a region that draws its order. -/
theorem step_key {ops : Array Oper} {o : Oper} {a : Act} {W : World} {K : Act → World → Prop} {Q : Exit → Act → World → Prop} {E : Prop} (hgd : o.guard = none) (s x : Operand)
    (ho : o.op = .call { callee := .builtin .append, args := #[s, x], argTypes := #[22, 22] }) {B n : Nat} {v : Value} {ys : List KeyV} (hown : W.ownsRow B 57 6 v n (flat ys)) (hB : B ≤ W.heap.size) (hn : n ≤ 1000000) (k : KeyV) (hs : a.eval s = v)
    {g c : Nat} (hx : a.eval x = .slice (some ⟨g, 0, none⟩) 1 c) (hk : Keys W (some ⟨g, 0, none⟩) [k])
    (h : ∀ g2 cap W2, W2.ownsRow B 57 6 (.slice (some ⟨g2, 0, none⟩) (n + 1) cap) (n + 1) (flat (ys ++ [k])) → W.grownBy W2 v.ownBlock → (v.ownBlock = some g2 ∨ g2 = W.heap.size) → K (a.put o.dst (.slice (some ⟨g2, 0, none⟩) (n + 1) cap)) W2) :
    if Region.wanted o (yielded ops a.tmps) = true then Oper.wp Tryz.prog o a W K Q else E := by
  obtain ⟨i0, hi, hz0, hz1, hz2⟩ := info_parts infoKey
  refine step_append_lies _ hgd s x _ ho B 57 i0 _ 6 72 Tryz.underlying22 hi hz0 hz1 hz2 rfl (by decide) v n (flat ys) hs hown ⟨g, 0, none⟩ 1 c (flat [k]) hx (by rw [flat_len]; rfl) (fun j u hu => by rw [add_at, Nat.zero_add]; exact hk.flat j u hu) (flat_one _) (by decide) (by unfold maxLen; omega) (by omega) hB _ rfl ?_
  intro g2 cap W2 h1 h2 h3 _
  rw [← flat_append] at h1
  exact h g2 cap W2 h1 h2 h3

theorem blk6 (W : World) (g R : Nat) (hn : R ≠ g) (a b c d e f : Value) : ((((((W.setCell ⟨g, 0, none⟩ a).setCell ⟨g, 1, none⟩ b).setCell ⟨g, 2, none⟩ c).setCell ⟨g, 3, none⟩ d).setCell ⟨g, 4, none⟩ e).setCell ⟨g, 5, none⟩ f).heap[R]? = W.heap[R]? := by
  rw [Below.heap_setCell _ ⟨g, 5, none⟩ _ _ hn, Below.heap_setCell _ ⟨g, 4, none⟩ _ _ hn, Below.heap_setCell _ ⟨g, 3, none⟩ _ _ hn, Below.heap_setCell _ ⟨g, 2, none⟩ _ _ hn, Below.heap_setCell _ ⟨g, 1, none⟩ _ _ hn, Below.heap_setCell _ ⟨g, 0, none⟩ _ _ hn]
theorem cell_blk {W W' : World} {R : Nat} (h : W'.heap[R]? = W.heap[R]?) (j : Nat) : W'.cell? ⟨R, j, none⟩ = W.cell? ⟨R, j, none⟩ := by unfold World.cell?; rw [h]
theorem frozen_blk {W W' : World} {R : Nat} (h : W'.heap[R]? = W.heap[R]?) (j : Nat) : W'.frozen? ⟨R, j, none⟩ = W.frozen? ⟨R, j, none⟩ := by unfold World.frozen?; rw [h]
theorem Box6.blk {W W' : World} {R : Nat} {k : KeyV} (hb : Box6 W R k) (h : W'.heap[R]? = W.heap[R]?) : Box6 W' R k := by
  obtain ⟨c0, c1, c2, c3, c4, c5, f⟩ := hb
  exact ⟨(cell_blk h 0).trans c0, (cell_blk h 1).trans c1, (cell_blk h 2).trans c2, (cell_blk h 3).trans c3, (cell_blk h 4).trans c4, (cell_blk h 5).trans c5, fun j hj => (frozen_blk h j).trans (f j hj)⟩

set_option maxHeartbeats 3200000 in
set_option maxRecDepth 100000 in
theorem refAdd_any (B : Nat) (ys : List KeyV) (k : KeyV) (S : Nat) (v : Value) (w : World) (h : RefAt B w S v ys) (hl : ys.length ≤ 64) (hB : B ≤ w.heap.size) (h1 : k.name.size ≤ 4294967280) (h2 : k.dflt.size ≤ 2147483647) (h3 : k.letter.size ≤ 4294967280) :
    Calls Tryz.prog 36 #[.pointer (some ⟨S, 0, none⟩), kAgg k] w fun e w' => e = .returned (.int .i64 (addE ys k)) ∧ ∃ v', RefAt B w' S v' (addR ys k) ∧ RFr S v w w' ∧ (v'.ownBlock = v.ownBlock ∨ ∃ g, v'.ownBlock = some g ∧ w.heap.size ≤ g) := by
  have HR := Lib.hid h
  have HF : Hid (∀ W, Calls Tryz.prog 63 #[kAgg k] W fun e w' => e = .returned (.bool (formK k)) ∧ Below W.heap.size W w') := Lib.hid fun W => refForm_any k W h1 h3
  have HD : Hid (∀ W, Calls Tryz.prog 64 #[kAgg k] W fun e w' => e = .returned (.bool (dfltK k)) ∧ Below W.heap.size W w') := Lib.hid fun W => refDefault_any k W h2
  obtain ⟨x, c, hv, hset⟩ := h.set
  have HFI : Hid (∀ W, Below w.heap.size w W → Calls Tryz.prog 38 #[.pointer (some ⟨S, 0, none⟩), .string k.name] W fun e w' => e = .returned (oAgg (findK ys k.name)) ∧ Below W.heap.size W w') := Lib.hid fun W hb => refFind_any ys k.name S x c W (hset.below hb) (by omega)
  have HLE : Hid (∀ W, Below w.heap.size w W → Calls Tryz.prog 65 #[.pointer (some ⟨S, 0, none⟩), .string k.letter] W fun e w' => e = .returned (oAgg (letterK ys k.letter)) ∧ Below W.heap.size W w') := Lib.hid fun W hb => refLetter_any ys k.letter S x c W (hset.below hb) (by omega)
  have HSE : Hid (∀ W, Below w.heap.size w W → W.cell? ⟨S, 0, none⟩ = some v ∧ W.frozen? ⟨S, 0, none⟩ = false) := Lib.hid fun W hb => ⟨(hb.cell (p := ⟨S, 0, none⟩) h.lt).trans h.cell, (hb.frozen (p := ⟨S, 0, none⟩) h.lt).trans h.free⟩
  have HX0 : Hid (∀ t, Box6 (w.alloc (Obj.cells #[.string k.name, .int .i64 k.kind, .string k.dflt, .int .i64 k.least, .int .i64 k.most, .string k.letter] t)) w.heap.size k ∧ Below w.heap.size w (w.alloc (Obj.cells #[.string k.name, .int .i64 k.kind, .string k.dflt, .int .i64 k.least, .int .i64 k.most, .string k.letter] t))) := Lib.hid fun t => ⟨box6_new w k t, below_one w _⟩
  have HKEEP : Hid (∀ W, Below w.heap.size w W → RefAt B W S v ys ∧ RFr S v w W) := Lib.hid fun W hb => ⟨h.keep hb, ⟨hb.os, hb.tape, hb.output, hb.size, fun q hq _ _ => hb.block q hq⟩⟩
  obtain ⟨n, hn⟩ : ∃ n, ys.length = n := ⟨_, rfl⟩
  have HNN := Lib.hid hn
  have hSl := h.lt
  obtain ⟨E, hE⟩ : ∃ E, addE ys k = E := ⟨_, rfl⟩
  have HEE := Lib.hid hE
  have HNO : Hid (E ≠ 0 → addR ys k = ys) := Lib.hid fun he => by unfold addR; rw [hE, if_neg he]
  have HYE : Hid (E = 0 → addR ys k = ys ++ [k]) := Lib.hid fun he => by unfold addR; rw [hE, if_pos he]
  rw [hE]
  subst hv
  rw [hn] at hl HSE ⊢
  have HFIN : Hid (∀ W W2 g2 cap, Below w.heap.size w W → W2.ownsRow B 57 6 (.slice (some ⟨g2, 0, none⟩) (n + 1) cap) (n + 1) (flat (ys ++ [k])) → W.grownBy W2 (Value.slice x n c).ownBlock → ((Value.slice x n c).ownBlock = some g2 ∨ g2 = W.heap.size) →
      RefAt B (W2.setCell ⟨S, 0, none⟩ (.slice (some ⟨g2, 0, none⟩) (n + 1) cap)) S (.slice (some ⟨g2, 0, none⟩) (n + 1) cap) (ys ++ [k]) ∧ RFr S (.slice x n c) w (W2.setCell ⟨S, 0, none⟩ (.slice (some ⟨g2, 0, none⟩) (n + 1) cap)) ∧ ((Value.slice (some ⟨g2, 0, none⟩) (n + 1) cap).ownBlock = (Value.slice x n c).ownBlock ∨ ∃ g, (Value.slice (some ⟨g2, 0, none⟩) (n + 1) cap).ownBlock = some g ∧ w.heap.size ≤ g)) := Lib.hid fun W W2 g2 cap hb ho hg hl2 => by
    have h' := HR.out
    rw [hn] at h'
    refine ref_fin h' hb ho (by simp [hn]) hg ?_
    rcases hl2 with e | e
    · exact .inl e
    · exact .inr ⟨g2, rfl, by omega⟩
  have HOW : Hid (∀ W, Below w.heap.size w W → W.ownsRow B 57 6 (.slice x n c) n (flat ys)) := Lib.hid fun W hb => by
    have h' := (HR.out.keep hb).own
    rw [hn] at h'
    exact h'
  rw [hn] at HKEEP
  have HSG : Hid (∀ W W2, Below w.heap.size w W → W.grownBy W2 (Value.slice x n c).ownBlock → W2.cell? ⟨S, 0, none⟩ = some (.slice x n c) ∧ W2.frozen? ⟨S, 0, none⟩ = false) := Lib.hid fun W W2 hb hg => by
    have hne := HR.out.ne
    rw [hn] at hne
    have e := hg.block S (Nat.lt_of_lt_of_le hSl hb.size) (fun e => hne e.symm)
    exact ⟨(cell_blk e 0).trans (HSE.out W hb).1, (frozen_blk e 0).trans (HSE.out W hb).2⟩
  obtain ⟨rf, hrf⟩ : ∃ rf, formK k = rf := ⟨_, rfl⟩
  obtain ⟨rd, hrd⟩ : ∃ rd, dfltK k = rd := ⟨_, rfl⟩
  obtain ⟨G1, hG1⟩ : ∃ G1, (findK ys k.name).isSome = G1 := ⟨_, rfl⟩
  obtain ⟨G2, hG2⟩ : ∃ G2, (letterK ys k.letter).isSome = G2 := ⟨_, rfl⟩
  have HEQ : Hid (E = if rf = false then 50 else if rd = false then 53 else if G1 = true then 51 else if G2 = true then 52 else if 64 ≤ n then 54 else 0) := Lib.hid (by
    rw [← hE, ← hrf, ← hrd, ← hG1, ← hG2, find_has, ← hn]; rfl)
  obtain ⟨q1, hq1⟩ : ∃ q1, (findK ys k.name).getD kZero = q1 := ⟨_, rfl⟩
  obtain ⟨q2, hq2⟩ : ∃ q2, (letterK ys k.letter).getD kZero = q2 := ⟨_, rfl⟩
  unfold oAgg at HFI HLE
  rw [hrf] at HF
  rw [hrd] at HD
  rw [hG1, hq1] at HFI
  rw [hG2, hq2] at HLE
  clear h hset h1 h2 h3 hE hn HR hrf hrd hG1 hG2 hq1 hq2
  obtain ⟨nm, kd, dl, a, b, le⟩ := k
  obtain ⟨un, uk, ud, ua, ub, ul⟩ := q1
  obtain ⟨vn, vk, vd, va, vb, vl⟩ := q2
  unfold kAgg at HF HD HFI HLE ⊢
  simp only at HF HD HFI HLE HX0 ⊢
  go_enter Tryz.func36, Tryz.ntmps36
  go_wp2_with fail
  refine (HF.out _).mono ?_
  rintro e w1 ⟨rfl, hb1⟩
  have HX1 := Lib.hid ((HX0.out _).1.below hb1)
  have HB1 := Lib.hid ((HX0.out _).2.trans (hb1.mono (HX0.out _).2.size))
  clear hb1 HF HX0
  cases rf with
  | false =>
    have HE : Hid (E = 50) := Lib.hid (by rw [HEQ.out, if_pos rfl])
    have HK := Lib.hid (HKEEP.out _ HB1.out)
    go_wp2
    go_ret
    exact ⟨by rw [HE.out]; first | done | rfl, .slice x n c, by rw [HNO.out (by rw [HE.out]; decide)]; exact ⟨HK.out.1, HK.out.2, .inl rfl⟩⟩
  | true =>
    obtain ⟨c0, c1, c2, c3, c4, c5, _⟩ := HX1.out
    simp only at c0 c1 c2 c3 c4 c5
    go_wp2_with fail
    refine (HD.out _).mono ?_
    rintro e w2 ⟨rfl, hb2⟩
    have HX2 := Lib.hid (HX1.out.below hb2)
    have HB2 := Lib.hid (HB1.out.trans (hb2.mono HB1.out.size))
    clear hb2 HD HX1 HB1 c0 c1 c2 c3 c4 c5
    cases rd with
    | false =>
      have HE : Hid (E = 53) := Lib.hid (by rw [HEQ.out, if_neg (by decide), if_pos rfl])
      have HK := Lib.hid (HKEEP.out _ HB2.out)
      go_wp2
      go_ret
      exact ⟨by rw [HE.out]; first | done | rfl, .slice x n c, by rw [HNO.out (by rw [HE.out]; decide)]; exact ⟨HK.out.1, HK.out.2, .inl rfl⟩⟩
    | true =>
      have c0 : w2.cell? ⟨w.heap.size, 0, none⟩ = some (.string nm) := HX2.out.c0
      go_wp2_with fail
      refine (HFI.out _ HB2.out).mono ?_
      rintro e w3 ⟨rfl, hb3⟩
      have HX3 := Lib.hid (HX2.out.below hb3)
      have HB3 := Lib.hid (HB2.out.trans (hb3.mono HB2.out.size))
      have HB3A : Hid (∀ o, Below w.heap.size w (w3.alloc o)) := Lib.hid fun o => HB3.out.trans ((below_one w3 o).mono HB3.out.size)
      have hlt3 := HX3.out.lt
      have k5 : ∀ o, (w3.alloc o).cell? ⟨w.heap.size, 5, none⟩ = some (.string le) := fun o => (HX3.out.below (below_one w3 o)).c5
      have HXA : Hid (∀ o, Box6 (w3.alloc o) w.heap.size _) := Lib.hid fun o => HX3.out.below (below_one w3 o)
      clear hb3 HFI HX2 HB2 c0 hlt3
      go_wp2_with fail
      refine (HLE.out _ (HB3A.out _)).mono ?_
      rintro e w5 ⟨rfl, hb5⟩
      have HB5 := Lib.hid ((HB3A.out _).trans (hb5.mono (HB3A.out _).size))
      have HX5 := Lib.hid ((HXA.out _).below hb5)
      clear hb5 k5 HXA HLE HX3 HB3 HB3A
      have HB5A : Hid (∀ o, Below w.heap.size w (w5.alloc o)) := Lib.hid fun o => HB5.out.trans ((below_one w5 o).mono HB5.out.size)
      cases G1 with
      | true =>
        have HE : Hid (E = 51) := Lib.hid (by rw [HEQ.out, if_neg (by decide), if_neg (by decide), if_pos rfl])
        go_wp2
        go_ret
        exact ⟨by rw [HE.out]; first | done | rfl, .slice x n c, by rw [HNO.out (by rw [HE.out]; decide)]; exact ⟨(HKEEP.out _ (HB5A.out _)).1, (HKEEP.out _ (HB5A.out _)).2, .inl rfl⟩⟩
      | false =>
        cases G2 with
        | true =>
          have HE : Hid (E = 52) := Lib.hid (by rw [HEQ.out, if_neg (by decide), if_neg (by decide), if_neg (by decide), if_pos rfl])
          go_wp2
          go_ret
          exact ⟨by rw [HE.out]; first | done | rfl, .slice x n c, by rw [HNO.out (by rw [HE.out]; decide)]; exact ⟨(HKEEP.out _ (HB5A.out _)).1, (HKEEP.out _ (HB5A.out _)).2, .inl rfl⟩⟩
        | false =>
          have hlt5 := HX5.out.lt
          have sS : ∀ o, (w5.alloc o).cell? ⟨S, 0, none⟩ = some (.slice x n c) := fun o => (HSE.out _ (HB5A.out o)).1
          by_cases h64 : n = 64
          · subst h64
            have HE : Hid (E = 54) := Lib.hid (by rw [HEQ.out, if_neg (by decide), if_neg (by decide), if_neg (by decide), if_neg (by decide), if_pos (by decide)])
            go_wp2
            go_ret
            exact ⟨by rw [HE.out]; first | done | rfl, .slice x 64 c, by rw [HNO.out (by rw [HE.out]; decide)]; exact ⟨(HKEEP.out _ (HB5A.out _)).1, (HKEEP.out _ (HB5A.out _)).2, .inl rfl⟩⟩
          · have HE : Hid (E = 0) := Lib.hid (by rw [HEQ.out, if_neg (by decide), if_neg (by decide), if_neg (by decide), if_neg (by decide), if_neg (by omega)])
            have d64 : ((n : Int) == 64) = false := beq_eq_false_iff_ne.2 (by omega)
            have HX6 : Hid (∀ o, Box6 (w5.alloc o) w.heap.size _) := Lib.hid fun o => HX5.out.below (below_one w5 o)
            go_wp2
            have HB6 := Lib.hid (HB5A.out (Obj.cells #[.string vn, .int .i64 vk, .string vd, .int .i64 va, .int .i64 vb, .string vl] 57))
            have HX7 := Lib.hid (HX6.out (Obj.cells #[.string vn, .int .i64 vk, .string vd, .int .i64 va, .int .i64 vb, .string vl] 57))
            clear HX6 sS hlt5 h64 d64 HX5 HB5 HB5A
            generalize w5.alloc (Obj.cells #[.string vn, .int .i64 vk, .string vd, .int .i64 va, .int .i64 vb, .string vl] 57) = W6 at HB6 HX7 ⊢
            obtain ⟨c0, c1, c2, c3, c4, c5, _⟩ := HX7.out
            simp only at c0 c1 c2 c3 c4 c5
            obtain ⟨t0, t1⟩ := HSE.out _ HB6.out
            have t2 : ∀ o, (W6.alloc o).cell? ⟨S, 0, none⟩ = some (.slice x n c) := fun o => (HSE.out _ (HB6.out.trans ((below_one W6 o).mono HB6.out.size))).1
            have HBA : Hid (∀ o, Below w.heap.size w (W6.alloc o).drew) := Lib.hid fun o => (HB6.out.trans ((below_one W6 o).mono HB6.out.size)).trans ((below_drewN _ 1).mono (HB6.out.trans ((below_one W6 o).mono HB6.out.size)).size)
            have HKN : Hid (∀ t, Keys (W6.alloc (Obj.cells #[.string nm, .int .i64 kd, .string dl, .int .i64 a, .int .i64 b, .string le] t)).drew (some ⟨W6.heap.size, 0, none⟩) [⟨nm, kd, dl, a, b, le⟩]) := Lib.hid fun t => (keys_new W6 ⟨nm, kd, dl, a, b, le⟩ t).below (below_drewN _ 1)
            go_region_law (refine step_key rfl _ _ rfl (HOW.out _ (HBA.out _)) (Nat.le_trans hB (HBA.out _).size) (by omega) ⟨nm, kd, dl, a, b, le⟩ rfl rfl (HKN.out _) ?_; intro g2 cap W2 h1 h2 h3; have HFF := Lib.hid (HFIN.out _ _ _ _ (HBA.out _) h1 h2 h3); obtain ⟨s2, s3⟩ := HSG.out _ _ (HBA.out _) h2; clear h1 h2 h3)
            all_goals
              go_wp2
              go_ret
              exact ⟨by rw [HE.out]; first | done | rfl, _, by rw [HYE.out HE.out]; exact HFF.out⟩
end Go.Proofs.YtbgoooljkdjjhaaGreatDoor
