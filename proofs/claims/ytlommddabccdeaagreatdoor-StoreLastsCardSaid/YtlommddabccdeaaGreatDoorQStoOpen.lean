/-
  StoOpen.
-/
import Derived.Test.YtlommddabccdeaaGreatDoorQStoLsK
import Derived.Carry
import Derived.Deep.Slices
import Derived.Deep.Fields
namespace Go.Proofs.YtlommddabccdeaaGreatDoor
open Go.ChangeShapes Go.WideShapes Go.ChangeAt Go.RowKit Go.Deep

instance : Inhabited TurnV := ⟨⟨0, 0, ⟨#[]⟩, false, false⟩⟩
theorem add_atS (g off j : Nat) : (⟨g, off, none⟩ : Addr).add j = ⟨g, off + j, none⟩ := by unfold Addr.add; split <;> simp_all
section
variable {H : Type} {enc : TypeId × Value → H}
theorem spotL {w : World} {a : Addr} {v : Value} (h : w.cell? a = some v) : a.spot = none := by
 cases hs : a.spot with
 | none => rfl
 | some n =>
  unfold World.cell? at h
  split at h <;> simp [hs] at h
theorem wf64L {n : Int} (h : (Lit.int .i64 n).wf = true) : -9223372036854775808 ≤ n ∧ n ≤ 9223372036854775807 := by
 simp only [Lit.wf, Bool.and_eq_true, decide_eq_true_eq] at h
 exact h
theorem fields_ofL {W : World} {fs : Array Field} {e : TypeId} {fuel : Nat} {a : Addr} {cs : List Value} {x : DataW H × List MemPlace} (he : Tryz.prog.underlying e = some (.struct fs)) (hone : oneCellFields Tryz.prog fs = true)
  (hc : W.cells? 0 a fs.size = some cs) (ht : DataW.trod enc Tryz.prog W 0 (fun _ => true) true fuel e cs = some x) :
  ∃ n, ∀ (j : Nat) (f : Field), fs[j]? = some f → ∃ v y, W.cell? (a.add j) = some v ∧ DataW.trod enc Tryz.prog W 0 (fun _ => true) true n f.type [v] = some y := by
 obtain ⟨ys, n, _, _, _, hyl, hf⟩ := DataW.trod_struct he ht
 obtain ⟨_, hcl, hat⟩ := World.cells?_some hc
 refine ⟨n, fun j f hj => ?_⟩
 obtain ⟨ho, hk⟩ := hone_of hone j f hj
 have hjl : j < fs.size := (Array.getElem?_eq_some_iff.1 hj).1
 have h1 := hf j f hj
 rw [ho, hk, List.drop_eq_getElem_cons (by omega)] at h1
 refine ⟨cs[j]'(by omega), ys[j]'(by omega), ?_, ?_⟩
 ·rw [hat j hjl]; exact List.getElem?_eq_getElem _
 ·rw [← List.getElem?_eq_getElem]; exact h1
theorem cellsTuL : Tryz.prog.cellsOf 26 = 5 := by kernel_rfl
set_option maxRecDepth 100000 in
theorem open_turns {W : World} {r : Reach} {b0 : Nat} {v : Value} {d : DataW H} {p : List MemPlace} (hv : Value.okWide Tryz.prog W r b0 22 v) (h : DataW.Trod enc Tryz.prog W 0 (fun _ => true) true 22 v d p) :
  ∃ x ls cap, v = .slice x (List.length ls) cap ∧ TurnsAt W x ls ∧ ls.length ≤ cap ∧ ls.length ≤ maxLen ∧ ∀ l ∈ ls, TurnOk l := by
 obtain ⟨a0, len, cap, rfl⟩ := okWide_slice Tryz.underlying22 hv
 obtain ⟨fuel, hf⟩ := h
 rcases open_slice Tryz.underlying22 hf with ⟨hcs, _⟩ | ⟨a, len', cap', m, n, D, Pl, hcs, hb, hl, hm, hmm, _, hi⟩
 ·simp [Value.cells] at hcs
  obtain ⟨rfl, rfl, rfl⟩ := hcs
  exact ⟨none, [], 0, rfl, fun k hk => absurd hk (by simp), by simp, by simp, fun l hl => by cases hl⟩
 ·simp [Value.cells] at hcs
  obtain ⟨rfl, rfl, rfl⟩ := hcs
  simp only [if_true] at hmm
  have each : ∀ i, i < len → ∃ o : TurnV, TurnOk o ∧ ∃ b off, (some a : Option Addr) = some ⟨b, off, none⟩ ∧ b < W.heap.size ∧ W.cell? ⟨b, off + i * 5, none⟩ = some (.int .i64 o.t) ∧ W.cell? ⟨b, off + i * 5 + 1, none⟩ = some (.int .i64 o.k) ∧ W.cell? ⟨b, off + i * 5 + 2, none⟩ = some (.string o.v) ∧ W.cell? ⟨b, off + i * 5 + 3, none⟩ = some (.bool o.gone) ∧ W.cell? ⟨b, off + i * 5 + 4, none⟩ = some (.bool o.ends) := by
   intro i hil
   obtain ⟨cs', hc, ht⟩ := hi i (by omega)
   rw [cellsTuL] at hc
   obtain ⟨n', hfs⟩ := fields_ofL Tryz.underlying26 (by kernel_rfl) hc ht
   obtain ⟨v0, y0, c0, t0⟩ := hfs 0 _ rfl
   obtain ⟨v1, y1, c1, t1⟩ := hfs 1 _ rfl
   obtain ⟨v2, y2, c2, t2⟩ := hfs 2 _ rfl
   obtain ⟨v3, y3, c3, t3⟩ := hfs 3 _ rfl
   obtain ⟨v4, y4, c4, t4⟩ := hfs 4 _ rfl
   obtain ⟨s0, e0, _, g0⟩ := DataW.trod_int Tryz.underlying3 t0
   obtain ⟨s1, e1, _, g1⟩ := DataW.trod_int Tryz.underlying3 t1
   obtain ⟨s2, e2, _, g2⟩ := DataW.trod_string Tryz.underlying9 t2
   obtain ⟨s3, e3, _⟩ := DataW.trod_bool Tryz.underlying4 t3
   obtain ⟨s4, e4, _⟩ := DataW.trod_bool Tryz.underlying4 t4
   simp only [List.cons.injEq, and_true] at e0 e1 e2 e3 e4
   subst e0 e1 e2 e3 e4
   have hspot : a.spot = none := by
    have h1 : ((a.add (i * 5)).add 0).spot = none := spotL c0
    by_cases h0 : i = 0
    ·subst h0; simpa [Addr.add] using h1
    ·obtain ⟨cs0, hc0, _⟩ := hi 0 (by omega)
     obtain ⟨_, hcl, hat⟩ := World.cells?_some hc0
     rw [cellsTuL] at hcl hat
     have h2 := hat 0 (by omega)
     rw [List.getElem?_eq_getElem (by omega)] at h2
     have h3 := spotL h2
     simpa [Addr.add] using h3
   obtain ⟨b, off, sp⟩ := a
   simp only at hspot
   subst hspot
   have hadd : ∀ j, ((⟨b, off, none⟩ : Addr).add (i * 5)).add j = ⟨b, off + i * 5 + j, none⟩ := fun j => by rw [add_atS, add_atS]
   rw [hadd] at c0 c1 c2 c3 c4
   have hbl : b < W.heap.size := by
    rcases Nat.lt_or_ge b W.heap.size with h | h
    ·exact h
    ·simp [World.cell?, Array.getElem?_eq_none h] at c0
   exact ⟨⟨s0, s1, s2, s3, s4⟩, ⟨wf64L g0, wf64L g1, g2⟩, b, off, rfl, hbl, c0, c1, c2, c3, c4⟩
  obtain ⟨f, hf'⟩ := choose_lt each
  refine ⟨some a, (List.range len).map f, cap, by simp, fun k hk => ?_, by simpa using hl, by simp; omega, fun l hl' => ?_⟩
  ·have hk' : k < len := by simpa using hk
   have := (hf' k hk').2
   simpa using this
  ·obtain ⟨i, hi', rfl⟩ := List.mem_map.1 hl'
   exact (hf' i (List.mem_range.1 hi')).1
theorem cellsInL : Tryz.prog.cellsOf 3 = 1 := by kernel_rfl
set_option maxRecDepth 100000 in
theorem open_ints {W : World} {r : Reach} {b0 : Nat} {v : Value} {d : DataW H} {p : List MemPlace} (hv : Value.okWide Tryz.prog W r b0 23 v) (h : DataW.Trod enc Tryz.prog W 0 (fun _ => true) true 23 v d p) :
  ∃ x ls cap, v = .slice x (List.length ls) cap ∧ IntsAt W x ls ∧ ls.length ≤ cap ∧ ls.length ≤ maxLen ∧ ∀ l ∈ ls, In64 l := by
 obtain ⟨a0, len, cap, rfl⟩ := okWide_slice Tryz.underlying23 hv
 obtain ⟨fuel, hf⟩ := h
 rcases open_slice Tryz.underlying23 hf with ⟨hcs, _⟩ | ⟨a, len', cap', m, n, D, Pl, hcs, hb, hl, hm, hmm, _, hi⟩
 ·simp [Value.cells] at hcs
  obtain ⟨rfl, rfl, rfl⟩ := hcs
  exact ⟨none, [], 0, rfl, fun k hk => absurd hk (by simp), by simp, by simp, fun l hl => by cases hl⟩
 ·simp [Value.cells] at hcs
  obtain ⟨rfl, rfl, rfl⟩ := hcs
  simp only [if_true] at hmm
  have each : ∀ i, i < len → ∃ o : Int, In64 o ∧ ∃ b off, (some a : Option Addr) = some ⟨b, off, none⟩ ∧ b < W.heap.size ∧ W.cell? ⟨b, off + i, none⟩ = some (.int .i64 o) := by
   intro i hil
   obtain ⟨cs', hc, ht⟩ := hi i (by omega)
   rw [cellsInL] at hc
   obtain ⟨s0, e0, _, g0⟩ := DataW.trod_int Tryz.underlying3 ht
   subst e0
   obtain ⟨_, _, hat0⟩ := World.cells?_some hc
   have c0 : W.cell? ((a.add (i * 1)).add 0) = some (.int .i64 s0) := (hat0 0 (by omega)).trans rfl
   have hspot : a.spot = none := by
    have h1 : ((a.add (i * 1)).add 0).spot = none := spotL c0
    by_cases h0 : i = 0
    ·subst h0; simpa [Addr.add] using h1
    ·obtain ⟨cs0, hc0, _⟩ := hi 0 (by omega)
     obtain ⟨_, hcl, hat⟩ := World.cells?_some hc0
     rw [cellsInL] at hcl hat
     have h2 := hat 0 (by omega)
     rw [List.getElem?_eq_getElem (by omega)] at h2
     have h3 := spotL h2
     simpa [Addr.add] using h3
   obtain ⟨b, off, sp⟩ := a
   simp only at hspot
   subst hspot
   have hadd : ∀ j, ((⟨b, off, none⟩ : Addr).add (i * 1)).add j = ⟨b, off + i * 1 + j, none⟩ := fun j => by rw [add_atS, add_atS]
   rw [hadd] at c0
   have hbl : b < W.heap.size := by
    rcases Nat.lt_or_ge b W.heap.size with h | h
    ·exact h
    ·simp [World.cell?, Array.getElem?_eq_none h] at c0
   exact ⟨s0, wf64L g0, b, off, rfl, hbl, by simpa using c0⟩
  obtain ⟨f, hf'⟩ := choose_lt each
  refine ⟨some a, (List.range len).map f, cap, by simp, fun k hk => ?_, by simpa using hl, by simp; omega, fun l hl' => ?_⟩
  ·have hk' : k < len := by simpa using hk
   have := (hf' k hk').2
   simpa using this
  ·obtain ⟨i, hi', rfl⟩ := List.mem_map.1 hl'
   exact (hf' i (List.mem_range.1 hi')).1
end
end Go.Proofs.YtlommddabccdeaaGreatDoor
