/-
  Plain facts for IniSections: what a printed line is behind its name; names cut at a point; and rows of numbers of a call's own.
-/
import Derived.Test.YtbpbiakdigjcnaaDoorIniBackMath
namespace Go.Proofs.YtbpbiakdigjcnaaDoor
open Go.ChangeShapes Go.WideShapes Go.ChangeAt Go.RowKit

theorem ok_all : ∀ (rest done : List LineV), okGo done rest → ∀ l ∈ rest, nameB l.name.data.toList = true ∧ l.text.size ≤ 200
  | [], _, _, l, hl => by cases hl
  | a :: r, done, h, l, hl => by
    obtain ⟨_, h2, h3, h4⟩ := h
    rcases List.mem_cons.1 hl with rfl | hl
    · exact ⟨h2, h3⟩
    · exact ok_all r _ h4 l hl
theorem flat_ge : ∀ ls : List LineV, ls.length ≤ (ls.flatMap entryL).length
  | [] => by simp
  | l :: r => by
    have := flat_ge r
    rw [List.flatMap_cons, List.length_append, List.length_cons]
    have : 1 ≤ (entryL l).length := by unfold entryL; simp; omega
    omega
theorem print_facts {ls : List LineV} {b : List UInt8} (h : printF ls = some b) : (∀ l ∈ ls, nameB l.name.data.toList = true ∧ l.text.size ≤ 200) ∧ ls.length ≤ 8000 := by
  obtain ⟨h1, h2, h3⟩ := printGo_ok ls [] [] b h
  refine ⟨ok_all ls [] h1, ?_⟩
  have := flat_ge ls
  have h8 := h3 (by simp)
  rw [h2, List.nil_append] at h8
  omega
theorem entry_len (l : LineV) : (entryL l).length = l.name.size + 4 + (standL l.text.data.toList).length := by
  unfold entryL
  simp only [List.length_append, List.length_cons, List.length_nil]
  have : l.name.data.toList.length = l.name.size := by simp
  omega
theorem stand_le {t : ByteArray} (h : t.size ≤ 200) : (standL t.data.toList).length ≤ 802 := by
  have := standL_len t.data.toList
  have : t.data.toList.length = t.size := by simp
  omega
theorem one_line (l : LineV) (hn : nameB l.name.data.toList = true) (ht : l.text.size ≤ 200) : printF [⟨l.name, l.text, 0⟩] = some (entryL l) := by
  unfold printF
  have he : entryL ⟨l.name, l.text, 0⟩ = entryL l := rfl
  have h1 := entry_len l
  have h2 := stand_le ht
  have h3 := name_len hn
  have h4 : l.name.data.toList.length = l.name.size := by simp
  rw [printGo, if_pos ⟨rfl, hn, ht, by rw [he, List.nil_append]; omega⟩, printGo, he, List.nil_append]
/-- A printed line behind its name. -/
theorem line_rest (l : LineV) (LINE LT : ByteArray) (h : LINE = mkB (entryL l)) (h2 : LINE.extract l.name.size LINE.size = LT) : LT.data.toList = [32, 61, 32] ++ (standL l.text.data.toList ++ [10]) := by
  rw [← h2, Lib.extract_to_end, h, mkB_data]
  unfold entryL
  have h4 : l.name.size = l.name.data.toList.length := by simp
  rw [h4, List.append_assoc, List.append_assoc, List.drop_left]
theorem secAll_snoc : ∀ (ls : List LineV) (qs : List (List UInt8 × List UInt8)) (l : LineV) (q : List UInt8 × List UInt8), ls.length = qs.length → secAll (ls ++ [l]) (qs ++ [q]) = secAll ls qs ++ secEntry l q
  | [], [], l, q, _ => by simp [secAll]
  | [], _ :: _, _, _, h => by cases h
  | _ :: _, [], _, _, h => by cases h
  | a :: r, p :: ps, l, q, h => by
    have := secAll_snoc r ps l q (by simpa using h)
    rw [List.cons_append, List.cons_append, secAll, secAll, this, List.append_assoc]
theorem halves_cut (nm : ByteArray) (K : Nat) (hK : K < nm.size) (h : nm[K] = 46) : Halves nm.data.toList ((nm.extract 0 K).data.toList, (nm.extract (K + 1) nm.size).data.toList) := by
  refine .inr ?_
  rw [Lib.extract_data, Lib.extract_to_end, List.drop_zero, Nat.sub_zero]
  have := drop_byte nm K hK
  rw [h] at this
  rw [← this, List.take_append_drop]
theorem sec_bytes (l : LineV) (SEC NM LT : ByteArray) (h : LT.data.toList = [32, 61, 32] ++ (standL l.text.data.toList ++ [10])) : (((((⟨#[91]⟩ : ByteArray) ++ SEC) ++ (⟨#[93, 10]⟩ : ByteArray)) ++ NM) ++ LT).data.toList = secEntry l (SEC.data.toList, NM.data.toList) := by
  unfold secEntry secL lineB
  simp [h]
theorem secEntry_len (l : LineV) (q : List UInt8 × List UInt8) (h1 : q.1.length ≤ 32) (h2 : q.2.length ≤ 32) (ht : l.text.size ≤ 200) : (secEntry l q).length ≤ 1000 := by
  unfold secEntry secL lineB
  have := stand_le ht
  simp only [List.length_append, List.length_cons, List.length_nil]
  omega
/-- So far each name is cut so. -/
def SecOk (ls : List LineV) (qs : List (List UInt8 × List UInt8)) (t : Nat) (l : List UInt8) : Prop :=
  l = secAll (ls.take t) qs ∧ qs.length = t ∧ l.length ≤ 1000 * t ∧ ∀ i (h : i < ls.length) (h2 : i < qs.length), Halves ls[i].name.data.toList qs[i]
theorem SecOk.start (ls : List LineV) : SecOk ls [] 0 [] := ⟨by rw [List.take_zero]; rfl, rfl, by simp, fun i _ h => by cases h⟩
theorem SecOk.push {ls : List LineV} {qs : List (List UInt8 × List UInt8)} {t : Nat} {l : List UInt8} (h : SecOk ls qs t l) (ht : t < ls.length) {q : List UInt8 × List UInt8} (hq : Halves ls[t].name.data.toList q) (h32 : ls[t].name.size ≤ 32) (h200 : ls[t].text.size ≤ 200) : SecOk ls (qs ++ [q]) (t + 1) (l ++ secEntry ls[t] q) := by
  obtain ⟨h1, h2, h3, h4⟩ := h
  have hn : ls[t].name.data.toList.length = ls[t].name.size := by simp
  have hlen : q.1.length ≤ 32 ∧ q.2.length ≤ 32 := by
    rcases hq with ⟨e1, e2⟩ | e
    · rw [e1, e2]; exact ⟨by simp, by omega⟩
    · have := congrArg List.length e
      simp only [List.length_append, List.length_cons] at this
      omega
  have he := secEntry_len ls[t] q hlen.1 hlen.2 h200
  refine ⟨?_, by simp [h2], by rw [List.length_append]; omega, fun i hi hi2 => ?_⟩
  · rw [List.take_succ_eq_append_getElem ht, secAll_snoc _ _ _ _ (by rw [List.length_take, h2]; omega), h1]
  · by_cases e : i < qs.length
    · rw [List.getElem_append_left e]; exact h4 i hi e
    · have ei : i = qs.length := by simp at hi2; omega
      have et : i = t := by omega
      subst et
      rw [List.getElem_append_right (by omega)]
      have e0 : i - qs.length = 0 := by omega
      simp only [e0, List.getElem_cons_zero]
      exact hq
theorem numS_len : ∀ (ls : List LineV) (k : Nat), (numS k ls).length = ls.length
  | [], _ => rfl
  | l :: r, k => by rw [numS, List.length_cons, List.length_cons, numS_len r]
theorem numS_at : ∀ (ls : List LineV) (k i : Nat) (h : i < ls.length) (h2 : i < (numS k ls).length), (numS k ls)[i] = ⟨ls[i].name, ls[i].text, ((k + 2 * i + 1 : Nat) : Int)⟩
  | [], _, _, h, _ => by cases h
  | l :: r, k, 0, _, _ => rfl
  | l :: r, k, i + 1, h, h2 => by
    have := numS_at r (k + 2) i (by simpa using h) (by simpa [numS] using h2)
    simp only [numS, List.getElem_cons_succ]
    rw [this]
    congr 2; omega

/-! Rows of numbers of a call's own -/
theorem infoI : (Tryd.prog.info? 3).map (fun i => (i.zero, i.size, i.bytes)) = some (some (.int .i64 0), 1, 8) := by kernel_rfl
def nat64 (k : Nat) : Value := .int .i64 (k : Int)
/-- A slice of numbers of the call's own, begun in world w0. -/
structure OwnI (w0 w : World) (v : Value) (ks : List Nat) : Prop where
  own : w.ownsRow w0.heap.size 3 1 v ks.length (ks.map nat64)
  below : Below w0.heap.size w0 w
theorem OwnI.nil_ (w : World) : OwnI w w (.slice none 0 0) [] := ⟨World.ownsRow_nil _ _ _ _, Below.refl _ _⟩
/-- 'append(v, k)' of a number that was laid in a new block. -/
theorem appendK {ops : Array Oper} {rest : List Oper} {o : Oper} {a : Act} {Q : Exit → Act → World → Prop} (hgd : o.guard = none) (s x : Operand)
    (ho : o.op = .call { callee := .builtin .append, args := #[s, x], argTypes := #[41, 41] })
    {w0 w : World} {v : Value} {ks : List Nat} (hown : OwnI w0 w v ks) (hs : a.eval s = v) (k : Nat)
    {g c : Nat} (hx : a.eval x = .slice (some ⟨g, 0, none⟩) 1 c) (hg : g = w.heap.size) (hb : ks.length ≤ 1000000)
    (h : ∀ v' w', OwnI w0 w' v' (ks ++ [k]) → wpList Tryd.prog ops Q rest (a.put o.dst v') w') : wpList Tryd.prog ops Q (o :: rest) a (w.alloc (.cells #[.int .i64 (k : Int)] 3)) := by
  subst hg
  obtain ⟨i0, hi, hz0, hz1, hz2⟩ := info_parts infoI
  refine wpList_append_own _ hgd s x 41 ho w0.heap.size 3 i0 (.int .i64 0) 1 8 Tryd.underlying41 hi hz0 hz1 hz2 rfl (by decide) v ks.length (ks.map nat64) hs (hown.own.alloc _) ⟨w.heap.size, 0, none⟩ 1 c [nat64 k] hx (by simp) ?_ ?_ (by unfold maxLen; omega) (by omega) (by have := hown.below.size; simp; omega) ?_
  · intro j u hj
    rw [add_zero_at, World.cell?_alloc_at _ _ _ _ rfl]
    have : j = 0 := by have := (List.getElem?_eq_some_iff.1 hj).1; simp at this; exact this
    subst this
    simpa [nat64] using hj
  · intro u hu
    rw [List.mem_singleton.1 hu]; rfl
  · intro v' w' h1 h2 _
    refine h v' w' ⟨by simpa using h1, ?_⟩
    have hz := hown.below.size
    exact (hown.below.alloc hz _).grown h2 (by simp; omega) (fun k hk => (hown.own.lt k hk).1)
theorem OwnI.cell {w0 w : World} {g cap : Nat} {ks : List Nat} {n : Nat} (h : OwnI w0 w (.slice (some ⟨g, 0, none⟩) n cap) ks) (p : Nat) (hp : p < ks.length) : w.cell? ⟨g, p, none⟩ = some (.int .i64 (ks[p] : Int)) := by
  have hn : n = ks.length := by
    obtain ⟨x, c, e⟩ := own_slice h.own
    injection e
  subst hn
  rw [h.own.cellAt p (by omega), List.getElem?_map, List.getElem?_eq_getElem hp]
  rfl
/-- Rows of numbers that came in. -/
def Ints (w : World) (y : Option Addr) (rs : List Int) : Prop := ∀ k (h : k < rs.length), ∃ b off, y = some ⟨b, off, none⟩ ∧ b < w.heap.size ∧ w.cell? ⟨b, off + k, none⟩ = some (.int .i64 rs[k])
theorem Ints.below {w w' : World} {y : Option Addr} {rs : List Int} (h : Ints w y rs) (hb : Below w.heap.size w w') : Ints w' y rs := fun k hk => by
  obtain ⟨b, off, e, hl, hc⟩ := h k hk
  exact ⟨b, off, e, Nat.lt_of_lt_of_le hl hb.size, by rw [hb.cell (p := ⟨b, off + k, none⟩) hl]; exact hc⟩
end Go.Proofs.YtbpbiakdigjcnaaDoor
