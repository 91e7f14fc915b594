/-
  Items opened: a slice of structs of a bool, two integers and a text.
-/
import Derived.Test.YtcfnkphdmkepaaaDoorCodecLaid
import Derived.Test.YtcfnkphdmkepaaaDoorCodecItems
namespace Go.Proofs.YtcfnkphdmkepaaaDoor
open Go.ChangeShapes Go.WideShapes Go.ChangeAt Go.RowKit Go.Deep
section
variable {H : Type} {enc : TypeId × Value → H}
theorem cellsItem : Tryd.prog.cellsOf 39 = 4 := by kernel_rfl
instance : Inhabited ItemV := ⟨⟨false, 0, 0, ⟨#[]⟩⟩⟩
set_option maxRecDepth 100000 in
theorem open_items {W : World} {r : Reach} {b0 : Nat} {v : Value} {d : DataW H} {p : List MemPlace} (hv : Value.okWide Tryd.prog W r b0 37 v) (h : DataW.Trod enc Tryd.prog W 0 (fun _ => true) true 37 v d p) :
    ∃ x os cap, v = .slice x (List.length os) cap ∧ Items W x os := by
  obtain ⟨a0, len, cap, rfl⟩ := okWide_slice Tryd.underlying37 hv
  obtain ⟨fuel, hf⟩ := h
  rcases open_slice Tryd.underlying37 hf with ⟨hcs, _⟩ | ⟨a, len', cap', m, n, D, Pl, hcs, hb, hl, hm, hmm, _, hi⟩
  · simp [Value.cells] at hcs
    obtain ⟨rfl, rfl, rfl⟩ := hcs
    exact ⟨none, [], 0, rfl, by simp, fun k hk => absurd hk (by simp)⟩
  · simp [Value.cells] at hcs
    obtain ⟨rfl, rfl, rfl⟩ := hcs
    simp only [if_true] at hmm
    have each : ∀ i, i < len → ∃ o : ItemV, o.ok ∧ ∃ b off, (some a : Option Addr) = some ⟨b, off, none⟩ ∧ b < W.heap.size ∧ ItemAt W b off i o := by
      intro i hil
      obtain ⟨cs', hc, ht⟩ := hi i (by omega)
      rw [cellsItem] at hc
      obtain ⟨n', hfs⟩ := fields_of Tryd.underlying39 (by kernel_rfl) hc ht
      obtain ⟨v0, y0, c0, t0⟩ := hfs 0 _ rfl
      obtain ⟨v1, y1, c1, t1⟩ := hfs 1 _ rfl
      obtain ⟨v2, y2, c2, t2⟩ := hfs 2 _ rfl
      obtain ⟨v3, y3, c3, t3⟩ := hfs 3 _ rfl
      obtain ⟨n0, e0, _⟩ := DataW.trod_bool Tryd.underlying4 t0
      obtain ⟨n1, e1, _, g1⟩ := DataW.trod_int Tryd.underlying3 t1
      obtain ⟨n2, e2, _, g2⟩ := DataW.trod_int Tryd.underlying3 t2
      obtain ⟨s3, e3, _, g3⟩ := DataW.trod_string Tryd.underlying9 t3
      simp only [List.cons.injEq, and_true] at e0 e1 e2 e3
      subst e0 e1 e2 e3
      have hspot : a.spot = none := by
        have h1 : ((a.add (i * 4)).add 0).spot = none := spot_none c0
        by_cases h0 : i = 0
        · subst h0; simpa [Addr.add] using h1
        · obtain ⟨cs0, hc0, _⟩ := hi 0 (by omega)
          obtain ⟨_, hcl, hat⟩ := World.cells?_some hc0
          rw [cellsItem] at hcl hat
          have h2 := hat 0 (by omega)
          rw [List.getElem?_eq_getElem (by omega)] at h2
          have h3 := spot_none h2
          simpa [Addr.add] using h3
      obtain ⟨b, off, sp⟩ := a
      simp only at hspot
      subst hspot
      have hadd : ∀ j, ((⟨b, off, none⟩ : Addr).add (i * 4)).add j = ⟨b, off + i * 4 + j, none⟩ := fun j => by rw [add_at, add_at]
      rw [hadd] at c0 c1 c2 c3
      have hbl : b < W.heap.size := by
        rcases Nat.lt_or_ge b W.heap.size with h | h
        · exact h
        · simp [World.cell?, Array.getElem?_eq_none h] at c0
      refine ⟨⟨n0, n1, n2, s3⟩, ⟨wf64 g1, wf64 g2, by unfold maxLen at g3; simp only; omega⟩, b, off, rfl, hbl, c0, c1, c2, c3⟩
    obtain ⟨f, hf'⟩ := choose_lt each
    refine ⟨some a, (List.range len).map f, cap, by simp, by unfold maxLen at hm; simp; omega, fun k hk => ?_⟩
    have hk' : k < len := by simpa using hk
    have := hf' k hk'
    simpa using this
end
end Go.Proofs.YtcfnkphdmkepaaaDoor
