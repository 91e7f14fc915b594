/-
  StpOpen.
-/
import Derived.Test.YticcdighfojjjaaGreatDoorQStpWeigh2
import Derived.Carry
import Derived.Deep.Slices
import Derived.Deep.Fields
namespace Go.Proofs.YticcdighfojjjaaGreatDoor
open Go.ChangeShapes Go.WideShapes Go.ChangeAt Go.RowKit Go.Deep

instance : Inhabited PairV := ⟨⟨⟨#[]⟩, ⟨#[]⟩, ⟨#[]⟩⟩⟩
instance : Inhabited StepV := ⟨⟨0, ⟨#[]⟩, ⟨#[]⟩, ⟨#[]⟩, ⟨#[]⟩⟩⟩
theorem add_atS (g off j : Nat) : (⟨g, off, none⟩ : Addr).add j = ⟨g, off + j, none⟩ := by unfold Addr.add; split <;> simp_all
section
variable {H : Type} {enc : TypeId × Value → H}
theorem spotL {w : World} {a : Addr} {v : Value} (h : w.cell? a = some v) : a.spot = none := by
  cases hs : a.spot with
  | none => rfl
  | some n =>
    unfold World.cell? at h
    split at h <;> simp [hs] at h
/-- The cells of one struct of one-cell fields, each with its reading. -/
theorem fields_ofL {W : World} {fs : Array Field} {e : TypeId} {fuel : Nat} {a : Addr} {cs : List Value} {x : DataW H × List MemPlace} (he : Tryz.prog.underlying e = some (.struct fs)) (hone : oneCellFields Tryz.prog fs = true)
    (hc : W.cells? 0 a fs.size = some cs) (ht : DataW.trod enc Tryz.prog W 0 (fun _ => true) true fuel e cs = some x) :
    ∃ n, ∀ (j : Nat) (f : Field), fs[j]? = some f → ∃ v y, W.cell? (a.add j) = some v ∧ DataW.trod enc Tryz.prog W 0 (fun _ => true) true n f.type [v] = some y := by
  obtain ⟨ys, n, _, _, _, hyl, hf⟩ := DataW.trod_struct he ht
  obtain ⟨_, hcl, hat⟩ := World.cells?_some hc
  refine ⟨n, fun j f hj => ?_⟩
  obtain ⟨ho, hk⟩ := hone_of hone j f hj
  have hjl : j < fs.size := (Array.getElem?_eq_some_iff.1 hj).1
  have h1 := hf j f hj
  rw [ho, hk, List.drop_eq_getElem_cons (by omega)] at h1
  refine ⟨cs[j]'(by omega), ys[j]'(by omega), ?_, ?_⟩
  · rw [hat j hjl]; exact List.getElem?_eq_getElem _
  · rw [← List.getElem?_eq_getElem]; exact h1
theorem cellsPrL : Tryz.prog.cellsOf 51 = 3 := by kernel_rfl
/-- One that came in. -/
def PrOkL (l : PairV) : Prop := l.table.size ≤ maxLen ∧ l.key.size ≤ maxLen ∧ l.value.size ≤ maxLen
set_option maxRecDepth 100000 in
theorem open_pairs {W : World} {r : Reach} {b0 : Nat} {v : Value} {d : DataW H} {p : List MemPlace} (hv : Value.okWide Tryz.prog W r b0 37 v) (h : DataW.Trod enc Tryz.prog W 0 (fun _ => true) true 37 v d p) :
    ∃ x ls cap, v = .slice x (List.length ls) cap ∧ PrsAt W x ls ∧ ls.length ≤ cap ∧ ls.length ≤ maxLen ∧ ∀ l ∈ ls, PrOkL l := by
  obtain ⟨a0, len, cap, rfl⟩ := okWide_slice Tryz.underlying37 hv
  obtain ⟨fuel, hf⟩ := h
  rcases open_slice Tryz.underlying37 hf with ⟨hcs, _⟩ | ⟨a, len', cap', m, n, D, Pl, hcs, hb, hl, hm, hmm, _, hi⟩
  · simp [Value.cells] at hcs
    obtain ⟨rfl, rfl, rfl⟩ := hcs
    exact ⟨none, [], 0, rfl, fun k hk => absurd hk (by simp), by simp, by simp, fun l hl => by cases hl⟩
  · simp [Value.cells] at hcs
    obtain ⟨rfl, rfl, rfl⟩ := hcs
    simp only [if_true] at hmm
    have each : ∀ i, i < len → ∃ o : PairV, PrOkL o ∧ ∃ b off, (some a : Option Addr) = some ⟨b, off, none⟩ ∧ b < W.heap.size ∧ W.cell? ⟨b, off + i * 3, none⟩ = some (.string o.table) ∧ W.cell? ⟨b, off + i * 3 + 1, none⟩ = some (.string o.key) ∧ W.cell? ⟨b, off + i * 3 + 2, none⟩ = some (.string o.value) := by
      intro i hil
      obtain ⟨cs', hc, ht⟩ := hi i (by omega)
      rw [cellsPrL] at hc
      obtain ⟨n', hfs⟩ := fields_ofL Tryz.underlying51 (by kernel_rfl) hc ht
      obtain ⟨v0, y0, c0, t0⟩ := hfs 0 _ rfl
      obtain ⟨v1, y1, c1, t1⟩ := hfs 1 _ rfl
      obtain ⟨v2, y2, c2, t2⟩ := hfs 2 _ rfl
      obtain ⟨s0, e0, _, g0⟩ := DataW.trod_string Tryz.underlying9 t0
      obtain ⟨s1, e1, _, g1⟩ := DataW.trod_string Tryz.underlying9 t1
      obtain ⟨s2, e2, _, g2⟩ := DataW.trod_string Tryz.underlying9 t2
      simp only [List.cons.injEq, and_true] at e0 e1 e2
      subst e0 e1 e2
      have hspot : a.spot = none := by
        have h1 : ((a.add (i * 3)).add 0).spot = none := spotL c0
        by_cases h0 : i = 0
        · subst h0; simpa [Addr.add] using h1
        · obtain ⟨cs0, hc0, _⟩ := hi 0 (by omega)
          obtain ⟨_, hcl, hat⟩ := World.cells?_some hc0
          rw [cellsPrL] at hcl hat
          have h2 := hat 0 (by omega)
          rw [List.getElem?_eq_getElem (by omega)] at h2
          have h3 := spotL h2
          simpa [Addr.add] using h3
      obtain ⟨b, off, sp⟩ := a
      simp only at hspot
      subst hspot
      have hadd : ∀ j, ((⟨b, off, none⟩ : Addr).add (i * 3)).add j = ⟨b, off + i * 3 + j, none⟩ := fun j => by rw [add_atS, add_atS]
      rw [hadd] at c0 c1 c2
      have hbl : b < W.heap.size := by
        rcases Nat.lt_or_ge b W.heap.size with h | h
        · exact h
        · simp [World.cell?, Array.getElem?_eq_none h] at c0
      exact ⟨⟨s0, s1, s2⟩, ⟨g0, g1, g2⟩, b, off, rfl, hbl, c0, c1, c2⟩
    obtain ⟨f, hf'⟩ := choose_lt each
    refine ⟨some a, (List.range len).map f, cap, by simp, fun k hk => ?_, by simpa using hl, by simp; omega, fun l hl' => ?_⟩
    · have hk' : k < len := by simpa using hk
      have := (hf' k hk').2
      simpa using this
    · obtain ⟨i, hi', rfl⟩ := List.mem_map.1 hl'
      exact (hf' i (List.mem_range.1 hi')).1
theorem cellsStL : Tryz.prog.cellsOf 35 = 5 := by kernel_rfl
set_option maxRecDepth 100000 in
theorem open_steps {W : World} {r : Reach} {b0 : Nat} {v : Value} {d : DataW H} {p : List MemPlace} (hv : Value.okWide Tryz.prog W r b0 31 v) (h : DataW.Trod enc Tryz.prog W 0 (fun _ => true) true 31 v d p) :
    ∃ x ls cap, v = .slice x (List.length ls) cap ∧ StpsAt W x ls ∧ ls.length ≤ cap ∧ ls.length ≤ maxLen ∧ ∀ l ∈ ls, StepOk l := by
  obtain ⟨a0, len, cap, rfl⟩ := okWide_slice Tryz.underlying31 hv
  obtain ⟨fuel, hf⟩ := h
  rcases open_slice Tryz.underlying31 hf with ⟨hcs, _⟩ | ⟨a, len', cap', m, n, D, Pl, hcs, hb, hl, hm, hmm, _, hi⟩
  · simp [Value.cells] at hcs
    obtain ⟨rfl, rfl, rfl⟩ := hcs
    exact ⟨none, [], 0, rfl, fun k hk => absurd hk (by simp), by simp, by simp, fun l hl => by cases hl⟩
  · simp [Value.cells] at hcs
    obtain ⟨rfl, rfl, rfl⟩ := hcs
    simp only [if_true] at hmm
    have each : ∀ i, i < len → ∃ o : StepV, StepOk o ∧ ∃ b off, (some a : Option Addr) = some ⟨b, off, none⟩ ∧ b < W.heap.size ∧ W.cell? ⟨b, off + i * 5, none⟩ = some (.int .i64 o.kind) ∧ W.cell? ⟨b, off + i * 5 + 1, none⟩ = some (.string o.table) ∧ W.cell? ⟨b, off + i * 5 + 2, none⟩ = some (.string o.key) ∧ W.cell? ⟨b, off + i * 5 + 3, none⟩ = some (.string o.to) ∧ W.cell? ⟨b, off + i * 5 + 4, none⟩ = some (.string o.text) := by
      intro i hil
      obtain ⟨cs', hc, ht⟩ := hi i (by omega)
      rw [cellsStL] at hc
      obtain ⟨n', hfs⟩ := fields_ofL Tryz.underlying35 (by kernel_rfl) hc ht
      obtain ⟨v0, y0, c0, t0⟩ := hfs 0 _ rfl
      obtain ⟨v1, y1, c1, t1⟩ := hfs 1 _ rfl
      obtain ⟨v2, y2, c2, t2⟩ := hfs 2 _ rfl
      obtain ⟨v3, y3, c3, t3⟩ := hfs 3 _ rfl
      obtain ⟨v4, y4, c4, t4⟩ := hfs 4 _ rfl
      obtain ⟨s0, e0, _, g0⟩ := DataW.trod_int Tryz.underlying3 t0
      obtain ⟨s1, e1, _, g1⟩ := DataW.trod_string Tryz.underlying9 t1
      obtain ⟨s2, e2, _, g2⟩ := DataW.trod_string Tryz.underlying9 t2
      obtain ⟨s3, e3, _, g3⟩ := DataW.trod_string Tryz.underlying9 t3
      obtain ⟨s4, e4, _, g4⟩ := DataW.trod_string Tryz.underlying9 t4
      simp only [List.cons.injEq, and_true] at e0 e1 e2 e3 e4
      subst e0 e1 e2 e3 e4
      have hspot : a.spot = none := by
        have h1 : ((a.add (i * 5)).add 0).spot = none := spotL c0
        by_cases h0 : i = 0
        · subst h0; simpa [Addr.add] using h1
        · obtain ⟨cs0, hc0, _⟩ := hi 0 (by omega)
          obtain ⟨_, hcl, hat⟩ := World.cells?_some hc0
          rw [cellsStL] at hcl hat
          have h2 := hat 0 (by omega)
          rw [List.getElem?_eq_getElem (by omega)] at h2
          have h3 := spotL h2
          simpa [Addr.add] using h3
      obtain ⟨b, off, sp⟩ := a
      simp only at hspot
      subst hspot
      have hadd : ∀ j, ((⟨b, off, none⟩ : Addr).add (i * 5)).add j = ⟨b, off + i * 5 + j, none⟩ := fun j => by rw [add_atS, add_atS]
      rw [hadd] at c0 c1 c2 c3 c4
      have hbl : b < W.heap.size := by
        rcases Nat.lt_or_ge b W.heap.size with h | h
        · exact h
        · simp [World.cell?, Array.getElem?_eq_none h] at c0
      exact ⟨⟨s0, s1, s2, s3, s4⟩, ⟨g1, g2, g3, g4⟩, b, off, rfl, hbl, c0, c1, c2, c3, c4⟩
    obtain ⟨f, hf'⟩ := choose_lt each
    refine ⟨some a, (List.range len).map f, cap, by simp, fun k hk => ?_, by simpa using hl, by simp; omega, fun l hl' => ?_⟩
    · have hk' : k < len := by simpa using hk
      have := (hf' k hk').2
      simpa using this
    · obtain ⟨i, hi', rfl⟩ := List.mem_map.1 hl'
      exact (hf' i (List.mem_range.1 hi')).1
set_option maxRecDepth 100000 in
theorem open_step {W : World} {r : Reach} {b0 : Nat} {v : Value} {d : DataW H} {p : List MemPlace} (hv : Value.okWide Tryz.prog W r b0 35 v) (h : DataW.Trod enc Tryz.prog W 0 (fun _ => true) true 35 v d p) :
    ∃ l : StepV, v = .agg #[.int .i64 l.kind, .string l.table, .string l.key, .string l.to, .string l.text] ∧ StepOk l := by
  obtain ⟨cs, rfl, hcs⟩ := okWide_struct Tryz.underlying35 hv
  obtain ⟨fuel, hf⟩ := h
  obtain ⟨ys, n, _, _, hlen, hyl, hfs⟩ := DataW.trod_struct Tryz.underlying35 hf
  rw [cellsStL] at hcs
  obtain ⟨ls, rfl⟩ : ∃ ls : List Value, cs = ls.toArray := ⟨cs.toList, rfl⟩
  match ls, hcs with
  | [v0, v1, v2, v3, v4], _ =>
    match ys, hyl with
    | [y0, y1, y2, y3, y4], _ =>
      obtain ⟨s0, e0, _, g0⟩ := DataW.trod_int Tryz.underlying3 (show DataW.trod enc Tryz.prog W 0 (fun _ => true) true n 3 [v0] = some y0 from hfs 0 _ rfl)
      obtain ⟨s1, e1, _, g1⟩ := DataW.trod_string Tryz.underlying9 (show DataW.trod enc Tryz.prog W 0 (fun _ => true) true n 9 [v1] = some y1 from hfs 1 _ rfl)
      obtain ⟨s2, e2, _, g2⟩ := DataW.trod_string Tryz.underlying9 (show DataW.trod enc Tryz.prog W 0 (fun _ => true) true n 9 [v2] = some y2 from hfs 2 _ rfl)
      obtain ⟨s3, e3, _, g3⟩ := DataW.trod_string Tryz.underlying9 (show DataW.trod enc Tryz.prog W 0 (fun _ => true) true n 9 [v3] = some y3 from hfs 3 _ rfl)
      obtain ⟨s4, e4, _, g4⟩ := DataW.trod_string Tryz.underlying9 (show DataW.trod enc Tryz.prog W 0 (fun _ => true) true n 9 [v4] = some y4 from hfs 4 _ rfl)
      simp only [List.cons.injEq, and_true] at e0 e1 e2 e3 e4
      subst e0 e1 e2 e3 e4
      exact ⟨⟨s0, s1, s2, s3, s4⟩, rfl, g1, g2, g3, g4⟩
end
end Go.Proofs.YticcdighfojjjaaGreatDoor
