/-
  Lists of lines and lines that are handed in, opened.
-/
import Derived.Test.YtbpbiakdigjcnaaDoorIniLines
import Derived.Test.YtbpbiakdigjcnaaDoorIniLaid
import Derived.Carry
import Derived.Deep.Slices
import Derived.Deep.Fields
namespace Go.Proofs.YtbpbiakdigjcnaaDoor
open Go.ChangeShapes Go.WideShapes Go.ChangeAt Go.RowKit Go.Deep

section
variable {H : Type} {enc : TypeId × Value → H}
theorem spotN {w : World} {a : Addr} {v : Value} (h : w.cell? a = some v) : a.spot = none := by
  cases hs : a.spot with
  | none => rfl
  | some n =>
    unfold World.cell? at h
    split at h <;> simp [hs] at h
theorem add_atN (g off j : Nat) : (⟨g, off, none⟩ : Addr).add j = ⟨g, off + j, none⟩ := by unfold Addr.add; split <;> simp_all
theorem cellsLine : Tryd.prog.cellsOf 35 = 3 := by kernel_rfl
theorem wf64N {n : Int} (h : (Lit.int .i64 n).wf = true) : -9223372036854775808 ≤ n ∧ n ≤ 9223372036854775807 := by
  simp only [Lit.wf, Bool.and_eq_true, decide_eq_true_eq] at h
  exact h
/-- A line that came in. -/
def LineOk (l : LineV) : Prop := l.name.size ≤ maxLen ∧ l.text.size ≤ maxLen ∧ -9223372036854775808 ≤ l.num ∧ l.num ≤ 9223372036854775807
/-- The cells of one struct of one-cell fields, each with its reading. -/
theorem fields_ofN {W : World} {fs : Array Field} {e : TypeId} {fuel : Nat} {a : Addr} {cs : List Value} {x : DataW H × List MemPlace} (he : Tryd.prog.underlying e = some (.struct fs)) (hone : oneCellFields Tryd.prog fs = true)
    (hc : W.cells? 0 a fs.size = some cs) (ht : DataW.trod enc Tryd.prog W 0 (fun _ => true) true fuel e cs = some x) :
    ∃ n, ∀ (j : Nat) (f : Field), fs[j]? = some f → ∃ v y, W.cell? (a.add j) = some v ∧ DataW.trod enc Tryd.prog W 0 (fun _ => true) true n f.type [v] = some y := by
  obtain ⟨ys, n, _, _, _, hyl, hf⟩ := DataW.trod_struct he ht
  obtain ⟨_, hcl, hat⟩ := World.cells?_some hc
  refine ⟨n, fun j f hj => ?_⟩
  obtain ⟨ho, hk⟩ := hone_of hone j f hj
  have hjl : j < fs.size := (Array.getElem?_eq_some_iff.1 hj).1
  have h1 := hf j f hj
  rw [ho, hk, List.drop_eq_getElem_cons (by omega)] at h1
  refine ⟨cs[j]'(by omega), ys[j]'(by omega), ?_, ?_⟩
  · rw [hat j hjl]; exact List.getElem?_eq_getElem _
  · rw [← List.getElem?_eq_getElem]; exact h1
set_option maxRecDepth 100000 in
theorem open_lines {W : World} {r : Reach} {b0 : Nat} {v : Value} {d : DataW H} {p : List MemPlace} (hv : Value.okWide Tryd.prog W r b0 27 v) (h : DataW.Trod enc Tryd.prog W 0 (fun _ => true) true 27 v d p) :
    ∃ x ls cap, v = .slice x (List.length ls) cap ∧ Lns W x ls ∧ ls.length ≤ cap ∧ ls.length ≤ maxLen ∧ ∀ l ∈ ls, LineOk l := by
  obtain ⟨a0, len, cap, rfl⟩ := okWide_slice Tryd.underlying27 hv
  obtain ⟨fuel, hf⟩ := h
  rcases open_slice Tryd.underlying27 hf with ⟨hcs, _⟩ | ⟨a, len', cap', m, n, D, Pl, hcs, hb, hl, hm, hmm, _, hi⟩
  · simp [Value.cells] at hcs
    obtain ⟨rfl, rfl, rfl⟩ := hcs
    exact ⟨none, [], 0, rfl, Lns.nil_ _ _, by simp, by simp, fun l hl => by cases hl⟩
  · simp [Value.cells] at hcs
    obtain ⟨rfl, rfl, rfl⟩ := hcs
    simp only [if_true] at hmm
    have each : ∀ i, i < len → ∃ o : LineV, LineOk o ∧ ∃ b off, (some a : Option Addr) = some ⟨b, off, none⟩ ∧ b < W.heap.size ∧ LnAt W b off i o := by
      intro i hil
      obtain ⟨cs', hc, ht⟩ := hi i (by omega)
      rw [cellsLine] at hc
      obtain ⟨n', hfs⟩ := fields_ofN Tryd.underlying35 (by kernel_rfl) hc ht
      obtain ⟨v0, y0, c0, t0⟩ := hfs 0 _ rfl
      obtain ⟨v1, y1, c1, t1⟩ := hfs 1 _ rfl
      obtain ⟨v2, y2, c2, t2⟩ := hfs 2 _ rfl
      obtain ⟨s0, e0, _, g0⟩ := DataW.trod_string Tryd.underlying9 t0
      obtain ⟨s1, e1, _, g1⟩ := DataW.trod_string Tryd.underlying9 t1
      obtain ⟨n2, e2, _, g2⟩ := DataW.trod_int Tryd.underlying3 t2
      simp only [List.cons.injEq, and_true] at e0 e1 e2
      subst e0 e1 e2
      have hspot : a.spot = none := by
        have h1 : ((a.add (i * 3)).add 0).spot = none := spotN c0
        by_cases h0 : i = 0
        · subst h0; simpa [Addr.add] using h1
        · obtain ⟨cs0, hc0, _⟩ := hi 0 (by omega)
          obtain ⟨_, hcl, hat⟩ := World.cells?_some hc0
          rw [cellsLine] at hcl hat
          have h2 := hat 0 (by omega)
          rw [List.getElem?_eq_getElem (by omega)] at h2
          have h3 := spotN h2
          simpa [Addr.add] using h3
      obtain ⟨b, off, sp⟩ := a
      simp only at hspot
      subst hspot
      have hadd : ∀ j, ((⟨b, off, none⟩ : Addr).add (i * 3)).add j = ⟨b, off + i * 3 + j, none⟩ := fun j => by rw [add_atN, add_atN]
      rw [hadd] at c0 c1 c2
      have hbl : b < W.heap.size := by
        rcases Nat.lt_or_ge b W.heap.size with h | h
        · exact h
        · simp [World.cell?, Array.getElem?_eq_none h] at c0
      exact ⟨⟨s0, s1, n2⟩, ⟨g0, g1, wf64N g2⟩, b, off, rfl, hbl, c0, c1, c2⟩
    obtain ⟨f, hf'⟩ := choose_lt each
    refine ⟨some a, (List.range len).map f, cap, by simp, fun k hk => ?_, by simpa using hl, by simp; omega, fun l hl' => ?_⟩
    · have hk' : k < len := by simpa using hk
      have := (hf' k hk').2
      simpa using this
    · obtain ⟨i, hi', rfl⟩ := List.mem_map.1 hl'
      exact (hf' i (List.mem_range.1 hi')).1
set_option maxRecDepth 100000 in
theorem open_line {W : World} {r : Reach} {b0 : Nat} {v : Value} {d : DataW H} {p : List MemPlace} (hv : Value.okWide Tryd.prog W r b0 35 v) (h : DataW.Trod enc Tryd.prog W 0 (fun _ => true) true 35 v d p) :
    ∃ l : LineV, v = .agg #[.string l.name, .string l.text, .int .i64 l.num] ∧ LineOk l := by
  obtain ⟨cs, rfl, hcs⟩ := okWide_struct Tryd.underlying35 hv
  obtain ⟨fuel, hf⟩ := h
  obtain ⟨ys, n, _, _, hlen, hyl, hfs⟩ := DataW.trod_struct Tryd.underlying35 hf
  rw [cellsLine] at hcs
  obtain ⟨ls, rfl⟩ : ∃ ls : List Value, cs = ls.toArray := ⟨cs.toList, rfl⟩
  match ls, hcs with
  | [v0, v1, v2], _ =>
    match ys, hyl with
    | [y0, y1, y2], _ =>
      obtain ⟨s0, e0, _, g0⟩ := DataW.trod_string Tryd.underlying9 (show DataW.trod enc Tryd.prog W 0 (fun _ => true) true n 9 [v0] = some y0 from hfs 0 _ rfl)
      obtain ⟨s1, e1, _, g1⟩ := DataW.trod_string Tryd.underlying9 (show DataW.trod enc Tryd.prog W 0 (fun _ => true) true n 9 [v1] = some y1 from hfs 1 _ rfl)
      obtain ⟨n2, e2, _, g2⟩ := DataW.trod_int Tryd.underlying3 (show DataW.trod enc Tryd.prog W 0 (fun _ => true) true n 3 [v2] = some y2 from hfs 2 _ rfl)
      simp only [List.cons.injEq, and_true] at e0 e1 e2
      subst e0 e1 e2
      exact ⟨⟨s0, s1, n2⟩, rfl, g0, g1, wf64N g2⟩
end
end Go.Proofs.YtbpbiakdigjcnaaDoor
