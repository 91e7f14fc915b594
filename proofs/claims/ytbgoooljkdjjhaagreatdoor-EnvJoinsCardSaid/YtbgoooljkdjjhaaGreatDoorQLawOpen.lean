/-
  LawOpen.
-/
import Derived.Test.YtbgoooljkdjjhaaGreatDoorQGivKit
import Derived.Carry
import Derived.Deep.Slices
import Derived.Deep.Fields
namespace Go.Proofs.YtbgoooljkdjjhaaGreatDoor
open Go.ChangeShapes Go.WideShapes Go.ChangeAt Go.RowKit Go.Deep

instance : Inhabited KeyV := ⟨⟨⟨#[]⟩, 0, ⟨#[]⟩, 0, 0, ⟨#[]⟩⟩⟩
section
variable {H : Type} {enc : TypeId × Value → H}
theorem spotL {w : World} {a : Addr} {v : Value} (h : w.cell? a = some v) : a.spot = none := by
  cases hs : a.spot with
  | none => rfl
  | some n =>
    unfold World.cell? at h
    split at h <;> simp [hs] at h
theorem wf64L {n : Int} (h : (Lit.int .i64 n).wf = true) : -9223372036854775808 ≤ n ∧ n ≤ 9223372036854775807 := by
  simp only [Lit.wf, Bool.and_eq_true, decide_eq_true_eq] at h
  exact h
/-- The cells of one struct of one-cell fields, each with its reading. -/
theorem fields_ofL {W : World} {fs : Array Field} {e : TypeId} {fuel : Nat} {a : Addr} {cs : List Value} {x : DataW H × List MemPlace} (he : Tryz.prog.underlying e = some (.struct fs)) (hone : oneCellFields Tryz.prog fs = true)
    (hc : W.cells? 0 a fs.size = some cs) (ht : DataW.trod enc Tryz.prog W 0 (fun _ => true) true fuel e cs = some x) :
    ∃ n, ∀ (j : Nat) (f : Field), fs[j]? = some f → ∃ v y, W.cell? (a.add j) = some v ∧ DataW.trod enc Tryz.prog W 0 (fun _ => true) true n f.type [v] = some y := by
  obtain ⟨ys, n, _, _, _, hyl, hf⟩ := DataW.trod_struct he ht
  obtain ⟨_, hcl, hat⟩ := World.cells?_some hc
  refine ⟨n, fun j f hj => ?_⟩
  obtain ⟨ho, hk⟩ := hone_of hone j f hj
  have hjl : j < fs.size := (Array.getElem?_eq_some_iff.1 hj).1
  have h1 := hf j f hj
  rw [ho, hk, List.drop_eq_getElem_cons (by omega)] at h1
  refine ⟨cs[j]'(by omega), ys[j]'(by omega), ?_, ?_⟩
  · rw [hat j hjl]; exact List.getElem?_eq_getElem _
  · rw [← List.getElem?_eq_getElem]; exact h1
theorem cellsKeyL : Tryz.prog.cellsOf 57 = 6 := by kernel_rfl
/-- One that came in. -/
def KeyOkL (l : KeyV) : Prop := l.name.size ≤ maxLen ∧ (-9223372036854775808 ≤ l.kind ∧ l.kind ≤ 9223372036854775807) ∧ l.dflt.size ≤ maxLen ∧ (-9223372036854775808 ≤ l.least ∧ l.least ≤ 9223372036854775807) ∧ (-9223372036854775808 ≤ l.most ∧ l.most ≤ 9223372036854775807) ∧ l.letter.size ≤ maxLen
set_option maxRecDepth 100000 in
theorem open_keys {W : World} {r : Reach} {b0 : Nat} {v : Value} {d : DataW H} {p : List MemPlace} (hv : Value.okWide Tryz.prog W r b0 22 v) (h : DataW.Trod enc Tryz.prog W 0 (fun _ => true) true 22 v d p) :
    ∃ x ls cap, v = .slice x (List.length ls) cap ∧ KeysAt W x ls ∧ ls.length ≤ cap ∧ ls.length ≤ maxLen ∧ ∀ l ∈ ls, KeyOkL l := by
  obtain ⟨a0, len, cap, rfl⟩ := okWide_slice Tryz.underlying22 hv
  obtain ⟨fuel, hf⟩ := h
  rcases open_slice Tryz.underlying22 hf with ⟨hcs, _⟩ | ⟨a, len', cap', m, n, D, Pl, hcs, hb, hl, hm, hmm, _, hi⟩
  · simp [Value.cells] at hcs
    obtain ⟨rfl, rfl, rfl⟩ := hcs
    exact ⟨none, [], 0, rfl, fun k hk => absurd hk (by simp), by simp, by simp, fun l hl => by cases hl⟩
  · simp [Value.cells] at hcs
    obtain ⟨rfl, rfl, rfl⟩ := hcs
    simp only [if_true] at hmm
    have each : ∀ i, i < len → ∃ o : KeyV, KeyOkL o ∧ ∃ b off, (some a : Option Addr) = some ⟨b, off, none⟩ ∧ b < W.heap.size ∧ W.cell? ⟨b, off + i * 6, none⟩ = some (.string o.name) ∧ W.cell? ⟨b, off + i * 6 + 1, none⟩ = some (.int .i64 o.kind) ∧ W.cell? ⟨b, off + i * 6 + 2, none⟩ = some (.string o.dflt) ∧ W.cell? ⟨b, off + i * 6 + 3, none⟩ = some (.int .i64 o.least) ∧ W.cell? ⟨b, off + i * 6 + 4, none⟩ = some (.int .i64 o.most) ∧ W.cell? ⟨b, off + i * 6 + 5, none⟩ = some (.string o.letter) := by
      intro i hil
      obtain ⟨cs', hc, ht⟩ := hi i (by omega)
      rw [cellsKeyL] at hc
      obtain ⟨n', hfs⟩ := fields_ofL Tryz.underlying57 (by kernel_rfl) hc ht
      obtain ⟨v0, y0, c0, t0⟩ := hfs 0 _ rfl
      obtain ⟨v1, y1, c1, t1⟩ := hfs 1 _ rfl
      obtain ⟨v2, y2, c2, t2⟩ := hfs 2 _ rfl
      obtain ⟨v3, y3, c3, t3⟩ := hfs 3 _ rfl
      obtain ⟨v4, y4, c4, t4⟩ := hfs 4 _ rfl
      obtain ⟨v5, y5, c5, t5⟩ := hfs 5 _ rfl
      obtain ⟨s0, e0, _, g0⟩ := DataW.trod_string Tryz.underlying9 t0
      obtain ⟨n1, e1, _, g1⟩ := DataW.trod_int Tryz.underlying3 t1
      obtain ⟨s2, e2, _, g2⟩ := DataW.trod_string Tryz.underlying9 t2
      obtain ⟨n3, e3, _, g3⟩ := DataW.trod_int Tryz.underlying3 t3
      obtain ⟨n4, e4, _, g4⟩ := DataW.trod_int Tryz.underlying3 t4
      obtain ⟨s5, e5, _, g5⟩ := DataW.trod_string Tryz.underlying9 t5
      simp only [List.cons.injEq, and_true] at e0 e1 e2 e3 e4 e5
      subst e0 e1 e2 e3 e4 e5
      have hspot : a.spot = none := by
        have h1 : ((a.add (i * 6)).add 0).spot = none := spotL c0
        by_cases h0 : i = 0
        · subst h0; simpa [Addr.add] using h1
        · obtain ⟨cs0, hc0, _⟩ := hi 0 (by omega)
          obtain ⟨_, hcl, hat⟩ := World.cells?_some hc0
          rw [cellsKeyL] at hcl hat
          have h2 := hat 0 (by omega)
          rw [List.getElem?_eq_getElem (by omega)] at h2
          have h3 := spotL h2
          simpa [Addr.add] using h3
      obtain ⟨b, off, sp⟩ := a
      simp only at hspot
      subst hspot
      have hadd : ∀ j, ((⟨b, off, none⟩ : Addr).add (i * 6)).add j = ⟨b, off + i * 6 + j, none⟩ := fun j => by rw [add_at, add_at]
      rw [hadd] at c0 c1 c2 c3 c4 c5
      have hbl : b < W.heap.size := by
        rcases Nat.lt_or_ge b W.heap.size with h | h
        · exact h
        · simp [World.cell?, Array.getElem?_eq_none h] at c0
      exact ⟨⟨s0, n1, s2, n3, n4, s5⟩, ⟨g0, wf64L g1, g2, wf64L g3, wf64L g4, g5⟩, b, off, rfl, hbl, c0, c1, c2, c3, c4, c5⟩
    obtain ⟨f, hf'⟩ := choose_lt each
    refine ⟨some a, (List.range len).map f, cap, by simp, fun k hk => ?_, by simpa using hl, by simp; omega, fun l hl' => ?_⟩
    · have hk' : k < len := by simpa using hk
      have := (hf' k hk').2
      simpa using this
    · obtain ⟨i, hi', rfl⟩ := List.mem_map.1 hl'
      exact (hf' i (List.mem_range.1 hi')).1
theorem cellsGvL : Tryz.prog.cellsOf 27 = 3 := by kernel_rfl
/-- One that came in. -/
def GivOkL (l : GivV) : Prop := l.name.size ≤ maxLen ∧ l.text.size ≤ maxLen ∧ (-9223372036854775808 ≤ l.at_ ∧ l.at_ ≤ 9223372036854775807)
set_option maxRecDepth 100000 in
theorem open_givens {W : World} {r : Reach} {b0 : Nat} {v : Value} {d : DataW H} {p : List MemPlace} (hv : Value.okWide Tryz.prog W r b0 23 v) (h : DataW.Trod enc Tryz.prog W 0 (fun _ => true) true 23 v d p) :
    ∃ x ls cap, v = .slice x (List.length ls) cap ∧ Givs W x ls ∧ ls.length ≤ cap ∧ ls.length ≤ maxLen ∧ ∀ l ∈ ls, GivOkL l := by
  obtain ⟨a0, len, cap, rfl⟩ := okWide_slice Tryz.underlying23 hv
  obtain ⟨fuel, hf⟩ := h
  rcases open_slice Tryz.underlying23 hf with ⟨hcs, _⟩ | ⟨a, len', cap', m, n, D, Pl, hcs, hb, hl, hm, hmm, _, hi⟩
  · simp [Value.cells] at hcs
    obtain ⟨rfl, rfl, rfl⟩ := hcs
    exact ⟨none, [], 0, rfl, fun k hk => absurd hk (by simp), by simp, by simp, fun l hl => by cases hl⟩
  · simp [Value.cells] at hcs
    obtain ⟨rfl, rfl, rfl⟩ := hcs
    simp only [if_true] at hmm
    have each : ∀ i, i < len → ∃ o : GivV, GivOkL o ∧ ∃ b off, (some a : Option Addr) = some ⟨b, off, none⟩ ∧ b < W.heap.size ∧ W.cell? ⟨b, off + i * 3, none⟩ = some (.string o.name) ∧ W.cell? ⟨b, off + i * 3 + 1, none⟩ = some (.string o.text) ∧ W.cell? ⟨b, off + i * 3 + 2, none⟩ = some (.int .i64 o.at_) := by
      intro i hil
      obtain ⟨cs', hc, ht⟩ := hi i (by omega)
      rw [cellsGvL] at hc
      obtain ⟨n', hfs⟩ := fields_ofL Tryz.underlying27 (by kernel_rfl) hc ht
      obtain ⟨v0, y0, c0, t0⟩ := hfs 0 _ rfl
      obtain ⟨v1, y1, c1, t1⟩ := hfs 1 _ rfl
      obtain ⟨v2, y2, c2, t2⟩ := hfs 2 _ rfl
      obtain ⟨s0, e0, _, g0⟩ := DataW.trod_string Tryz.underlying9 t0
      obtain ⟨s1, e1, _, g1⟩ := DataW.trod_string Tryz.underlying9 t1
      obtain ⟨n2, e2, _, g2⟩ := DataW.trod_int Tryz.underlying3 t2
      simp only [List.cons.injEq, and_true] at e0 e1 e2
      subst e0 e1 e2
      have hspot : a.spot = none := by
        have h1 : ((a.add (i * 3)).add 0).spot = none := spotL c0
        by_cases h0 : i = 0
        · subst h0; simpa [Addr.add] using h1
        · obtain ⟨cs0, hc0, _⟩ := hi 0 (by omega)
          obtain ⟨_, hcl, hat⟩ := World.cells?_some hc0
          rw [cellsGvL] at hcl hat
          have h2 := hat 0 (by omega)
          rw [List.getElem?_eq_getElem (by omega)] at h2
          have h3 := spotL h2
          simpa [Addr.add] using h3
      obtain ⟨b, off, sp⟩ := a
      simp only at hspot
      subst hspot
      have hadd : ∀ j, ((⟨b, off, none⟩ : Addr).add (i * 3)).add j = ⟨b, off + i * 3 + j, none⟩ := fun j => by rw [add_at, add_at]
      rw [hadd] at c0 c1 c2
      have hbl : b < W.heap.size := by
        rcases Nat.lt_or_ge b W.heap.size with h | h
        · exact h
        · simp [World.cell?, Array.getElem?_eq_none h] at c0
      exact ⟨⟨s0, s1, n2⟩, ⟨g0, g1, wf64L g2⟩, b, off, rfl, hbl, c0, c1, c2⟩
    obtain ⟨f, hf'⟩ := choose_lt each
    refine ⟨some a, (List.range len).map f, cap, by simp, fun k hk => ?_, by simpa using hl, by simp; omega, fun l hl' => ?_⟩
    · have hk' : k < len := by simpa using hk
      have := (hf' k hk').2
      simpa using this
    · obtain ⟨i, hi', rfl⟩ := List.mem_map.1 hl'
      exact (hf' i (List.mem_range.1 hi')).1
theorem cellsTxL : Tryz.prog.cellsOf 9 = 1 := by kernel_rfl
set_option maxRecDepth 100000 in
theorem open_texts {W : World} {r : Reach} {b0 : Nat} {v : Value} {d : DataW H} {p : List MemPlace} (hv : Value.okWide Tryz.prog W r b0 33 v) (h : DataW.Trod enc Tryz.prog W 0 (fun _ => true) true 33 v d p) :
    ∃ x ls cap, v = .slice x (List.length ls) cap ∧ TxAt W x ls ∧ ls.length ≤ cap ∧ ls.length ≤ maxLen ∧ ∀ l ∈ ls, l.size ≤ maxLen := by
  obtain ⟨a0, len, cap, rfl⟩ := okWide_slice Tryz.underlying33 hv
  obtain ⟨fuel, hf⟩ := h
  rcases open_slice Tryz.underlying33 hf with ⟨hcs, _⟩ | ⟨a, len', cap', m, n, D, Pl, hcs, hb, hl, hm, hmm, _, hi⟩
  · simp [Value.cells] at hcs
    obtain ⟨rfl, rfl, rfl⟩ := hcs
    exact ⟨none, [], 0, rfl, fun k hk => absurd hk (by simp), by simp, by simp, fun l hl => by cases hl⟩
  · simp [Value.cells] at hcs
    obtain ⟨rfl, rfl, rfl⟩ := hcs
    simp only [if_true] at hmm
    have each : ∀ i, i < len → ∃ o : ByteArray, o.size ≤ maxLen ∧ ∃ b off, (some a : Option Addr) = some ⟨b, off, none⟩ ∧ b < W.heap.size ∧ W.cell? ⟨b, off + i, none⟩ = some (.string o) := by
      intro i hil
      obtain ⟨cs', hc, ht⟩ := hi i (by omega)
      rw [cellsTxL, Nat.mul_one] at hc
      obtain ⟨_, hcl, hat⟩ := World.cells?_some hc
      obtain ⟨c, hcc⟩ : ∃ c, cs' = [c] := by
        match cs', hcl with
        | [c], _ => exact ⟨c, rfl⟩
      subst hcc
      obtain ⟨s0, e0, _, g0⟩ := DataW.trod_string Tryz.underlying9 ht
      simp only [List.cons.injEq, and_true] at e0
      subst e0
      have c0 := hat 0 (by omega)
      have hspot : a.spot = none := by
        have h1 : ((a.add i).add 0).spot = none := spotL c0
        by_cases h0 : i = 0
        · subst h0; simpa [Addr.add] using h1
        · obtain ⟨cs0, hc0, _⟩ := hi 0 (by omega)
          obtain ⟨_, hcl, hat⟩ := World.cells?_some hc0
          rw [cellsTxL] at hcl hat
          have h2 := hat 0 (by omega)
          rw [List.getElem?_eq_getElem (by omega)] at h2
          have h3 := spotL h2
          simpa [Addr.add] using h3
      obtain ⟨b, off, sp⟩ := a
      simp only at hspot
      subst hspot
      have hadd : ∀ j, ((⟨b, off, none⟩ : Addr).add i).add j = ⟨b, off + i + j, none⟩ := fun j => by rw [add_at, add_at]
      rw [hadd] at c0
      have hbl : b < W.heap.size := by
        rcases Nat.lt_or_ge b W.heap.size with h | h
        · exact h
        · simp [World.cell?, Array.getElem?_eq_none h] at c0
      exact ⟨s0, g0, b, off, rfl, hbl, c0⟩
    obtain ⟨f, hf'⟩ := choose_lt each
    refine ⟨some a, (List.range len).map f, cap, by simp, fun k hk => ?_, by simpa using hl, by simp; omega, fun l hl' => ?_⟩
    · have hk' : k < len := by simpa using hk
      have := (hf' k hk').2
      simpa using this
    · obtain ⟨i, hi', rfl⟩ := List.mem_map.1 hl'
      exact (hf' i (List.mem_range.1 hi')).1
end
end Go.Proofs.YtbgoooljkdjjhaaGreatDoor
