/-
  An api.Value that is handed in, opened: its number, text and list.
-/
import Derived.Test.YtolibkcdfhbdiaaDoorValueWeigh
import Derived.Test.YtolibkcdfhbdiaaDoorValueLaid
namespace Go.Proofs.YtolibkcdfhbdiaaDoor
open Go.ChangeShapes Go.WideShapes Go.ChangeAt Go.RowKit

theorem cellsVal : Tryd.prog.cellsOf 29 = 4 := by kernel_rfl
theorem cellsStr : Tryd.prog.cellsOf 9 = 1 := by kernel_rfl
theorem spot_none {w : World} {a : Addr} {v : Value} (h : w.cell? a = some v) : a.spot = none := by
  cases hs : a.spot with
  | none => rfl
  | some n =>
    unfold World.cell? at h
    split at h <;> simp [hs] at h
theorem add_at (g off j : Nat) : (⟨g, off, none⟩ : Addr).add j = ⟨g, off + j, none⟩ := by unfold Addr.add; split <;> simp_all
section
variable {H : Type} {enc : TypeId × Value → H}
set_option maxRecDepth 100000 in
theorem open_texts {W : World} {fuel : Nat} {cs : List Value} {y : DataW H × List MemPlace} (h : DataW.trod enc Tryd.prog W 0 (fun _ => true) true fuel 23 cs = some y) :
    ∃ x xs cap, cs = [.slice x (List.length xs) cap] ∧ Txts W x xs ∧ xs.length ≤ cap ∧ xs.length ≤ maxLen ∧ ∀ k (h : k < xs.length), (xs[k]'h).size ≤ maxLen := by
  rcases DataW.trod_slice Tryd.underlying23 h with ⟨rfl, _⟩ | ⟨a, len, cap, elems, rest, n, _, rfl, _, _, hlc, hcm, hel, hi, _⟩
  · exact ⟨none, [], 0, rfl, Txts.nil_ _ _, Nat.le_refl _, by simp, fun k hk => absurd hk (by simp)⟩
  · rw [cellsStr] at hi
    have each : ∀ i, i < len → ∃ s : ByteArray, s.size ≤ maxLen ∧ W.cell? (a.add i) = some (.string s) := by
      intro i hil
      have := hi i hil
      rw [Nat.mul_one, List.getElem?_eq_getElem (by omega)] at this
      obtain ⟨cs', hc, ht⟩ := Option.bind_eq_some_iff.1 this
      obtain ⟨s, rfl, _, hs⟩ := DataW.trod_string Tryd.underlying9 ht
      obtain ⟨_, _, hat⟩ := World.cells?_some hc
      have h0 := hat 0 (by omega)
      refine ⟨s, hs, ?_⟩
      have e : (a.add i).add 0 = a.add i := by unfold Addr.add; split <;> simp_all
      rw [e] at h0; exact h0
    have hex : ∃ f : Nat → ByteArray, ∀ i, i < len → (f i).size ≤ maxLen ∧ W.cell? (a.add i) = some (.string (f i)) := by
      classical
      exact ⟨fun i => if h : i < len then (each i h).choose else ⟨#[]⟩, fun i h => by simp only [dif_pos h]; exact (each i h).choose_spec⟩
    obtain ⟨f, hf⟩ := hex
    refine ⟨some a, (List.range len).map f, cap, by simp, fun k hk => ?_, by simpa using hlc, by simp; omega, fun k hk => ?_⟩
    · have hk' : k < len := by simpa using hk
      have h1 := (hf k hk').2
      have hsp : a.spot = none := by
        have h0 := spot_none (hf 0 (by omega)).2
        simpa [Addr.add] using h0
      obtain ⟨b, off, sp⟩ := a
      simp only at hsp
      subst hsp
      rw [add_at] at h1
      refine ⟨b, off, rfl, lt_of_cell h1, ?_⟩
      rw [h1]; simp
    · have hk' : k < len := by simpa using hk
      have := (hf k hk').1
      simpa using this
set_option maxRecDepth 100000 in
theorem open_value {W : World} {r : Reach} {b0 : Nat} {v : Value} {d : DataW H} {p : List MemPlace} (hv : Value.okWide Tryd.prog W r b0 29 v) (h : DataW.Trod enc Tryd.prog W 0 (fun _ => true) true 29 v d p) :
    ∃ u x cap, v = argV u x cap ∧ RawOk W u x cap := by
  obtain ⟨cs, rfl, hcs⟩ := okWide_struct Tryd.underlying29 hv
  obtain ⟨fuel, hf⟩ := h
  obtain ⟨ys, n, _, _, hlen, hyl, hfs⟩ := DataW.trod_struct Tryd.underlying29 hf
  rw [cellsVal] at hcs
  obtain ⟨ls, rfl⟩ : ∃ ls : List Value, cs = ls.toArray := ⟨cs.toList, rfl⟩
  match ls, hcs with
  | [v0, v1, v2, v3], _ =>
    match ys, hyl with
    | [y0, y1, y2, y3], _ =>
      obtain ⟨n0, e0, _, g0⟩ := DataW.trod_int Tryd.underlying3 (show DataW.trod enc Tryd.prog W 0 (fun _ => true) true n 3 [v0] = some y0 from hfs 0 _ rfl)
      obtain ⟨n1, e1, _, g1⟩ := DataW.trod_int Tryd.underlying3 (show DataW.trod enc Tryd.prog W 0 (fun _ => true) true n 3 [v1] = some y1 from hfs 1 _ rfl)
      obtain ⟨s2, e2, _, g2⟩ := DataW.trod_string Tryd.underlying9 (show DataW.trod enc Tryd.prog W 0 (fun _ => true) true n 9 [v2] = some y2 from hfs 2 _ rfl)
      obtain ⟨x, xs, cap, e3, h1, h2, h3, h4⟩ := open_texts (show DataW.trod enc Tryd.prog W 0 (fun _ => true) true n 23 [v3] = some y3 from hfs 3 _ rfl)
      simp only [List.cons.injEq, and_true] at e0 e1 e2 e3
      subst e0 e1 e2 e3
      exact ⟨⟨n0, n1, s2, xs⟩, x, cap, rfl, h1, h2, h3, h4, g2⟩
end
end Go.Proofs.YtolibkcdfhbdiaaDoor
