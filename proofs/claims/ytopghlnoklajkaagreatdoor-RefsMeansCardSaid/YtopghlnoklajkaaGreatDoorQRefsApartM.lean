/-
  LawOpen, RefsOpen, RefsApartM.
-/
import Derived.Test.YtopghlnoklajkaaGreatDoorQTxKit
import Derived.Carry
import Derived.Deep.Slices
import Derived.Deep.Fields
import Derived.Test.YtopghlnoklajkaaGreatDoorQRefsLaid
import Derived.Test.YtopghlnoklajkaaGreatDoorQRefsLaw0
import Derived.Test.YtopghlnoklajkaaGreatDoorQRefsBoth
namespace Go.Proofs.YtopghlnoklajkaaGreatDoor
open Go.ChangeShapes Go.WideShapes Go.ChangeAt Go.RowKit Go.Deep

instance : Inhabited KeyV := ⟨⟨⟨#[]⟩, 0, ⟨#[]⟩, 0, 0, ⟨#[]⟩⟩⟩
section
variable {H : Type} {enc : TypeId × Value → H}
theorem spotL {w : World} {a : Addr} {v : Value} (h : w.cell? a = some v) : a.spot = none := by
  cases hs : a.spot with
  | none => rfl
  | some n =>
    unfold World.cell? at h
    split at h <;> simp [hs] at h
theorem wf64L {n : Int} (h : (Lit.int .i64 n).wf = true) : -9223372036854775808 ≤ n ∧ n ≤ 9223372036854775807 := by
  simp only [Lit.wf, Bool.and_eq_true, decide_eq_true_eq] at h
  exact h
/-- The cells of one struct of one-cell fields, each with its reading. -/
theorem fields_ofL {W : World} {fs : Array Field} {e : TypeId} {fuel : Nat} {a : Addr} {cs : List Value} {x : DataW H × List MemPlace} (he : Tryz.prog.underlying e = some (.struct fs)) (hone : oneCellFields Tryz.prog fs = true)
    (hc : W.cells? 0 a fs.size = some cs) (ht : DataW.trod enc Tryz.prog W 0 (fun _ => true) true fuel e cs = some x) :
    ∃ n, ∀ (j : Nat) (f : Field), fs[j]? = some f → ∃ v y, W.cell? (a.add j) = some v ∧ DataW.trod enc Tryz.prog W 0 (fun _ => true) true n f.type [v] = some y := by
  obtain ⟨ys, n, _, _, _, hyl, hf⟩ := DataW.trod_struct he ht
  obtain ⟨_, hcl, hat⟩ := World.cells?_some hc
  refine ⟨n, fun j f hj => ?_⟩
  obtain ⟨ho, hk⟩ := hone_of hone j f hj
  have hjl : j < fs.size := (Array.getElem?_eq_some_iff.1 hj).1
  have h1 := hf j f hj
  rw [ho, hk, List.drop_eq_getElem_cons (by omega)] at h1
  refine ⟨cs[j]'(by omega), ys[j]'(by omega), ?_, ?_⟩
  · rw [hat j hjl]; exact List.getElem?_eq_getElem _
  · rw [← List.getElem?_eq_getElem]; exact h1
theorem cellsKeyL : Tryz.prog.cellsOf 73 = 6 := by kernel_rfl
/-- One that came in. -/
def KeyOkL (l : KeyV) : Prop := l.name.size ≤ maxLen ∧ (-9223372036854775808 ≤ l.kind ∧ l.kind ≤ 9223372036854775807) ∧ l.dflt.size ≤ maxLen ∧ (-9223372036854775808 ≤ l.least ∧ l.least ≤ 9223372036854775807) ∧ (-9223372036854775808 ≤ l.most ∧ l.most ≤ 9223372036854775807) ∧ l.letter.size ≤ maxLen
set_option maxRecDepth 100000 in
theorem open_keys {W : World} {r : Reach} {b0 : Nat} {v : Value} {d : DataW H} {p : List MemPlace} (hv : Value.okWide Tryz.prog W r b0 32 v) (h : DataW.Trod enc Tryz.prog W 0 (fun _ => true) true 32 v d p) :
    ∃ x ls cap, v = .slice x (List.length ls) cap ∧ KeysAt W x ls ∧ ls.length ≤ cap ∧ ls.length ≤ maxLen ∧ ∀ l ∈ ls, KeyOkL l := by
  obtain ⟨a0, len, cap, rfl⟩ := okWide_slice Tryz.underlying32 hv
  obtain ⟨fuel, hf⟩ := h
  rcases open_slice Tryz.underlying32 hf with ⟨hcs, _⟩ | ⟨a, len', cap', m, n, D, Pl, hcs, hb, hl, hm, hmm, _, hi⟩
  · simp [Value.cells] at hcs
    obtain ⟨rfl, rfl, rfl⟩ := hcs
    exact ⟨none, [], 0, rfl, fun k hk => absurd hk (by simp), by simp, by simp, fun l hl => by cases hl⟩
  · simp [Value.cells] at hcs
    obtain ⟨rfl, rfl, rfl⟩ := hcs
    simp only [if_true] at hmm
    have each : ∀ i, i < len → ∃ o : KeyV, KeyOkL o ∧ ∃ b off, (some a : Option Addr) = some ⟨b, off, none⟩ ∧ b < W.heap.size ∧ W.cell? ⟨b, off + i * 6, none⟩ = some (.string o.name) ∧ W.cell? ⟨b, off + i * 6 + 1, none⟩ = some (.int .i64 o.kind) ∧ W.cell? ⟨b, off + i * 6 + 2, none⟩ = some (.string o.dflt) ∧ W.cell? ⟨b, off + i * 6 + 3, none⟩ = some (.int .i64 o.least) ∧ W.cell? ⟨b, off + i * 6 + 4, none⟩ = some (.int .i64 o.most) ∧ W.cell? ⟨b, off + i * 6 + 5, none⟩ = some (.string o.letter) := by
      intro i hil
      obtain ⟨cs', hc, ht⟩ := hi i (by omega)
      rw [cellsKeyL] at hc
      obtain ⟨n', hfs⟩ := fields_ofL Tryz.underlying73 (by kernel_rfl) hc ht
      obtain ⟨v0, y0, c0, t0⟩ := hfs 0 _ rfl
      obtain ⟨v1, y1, c1, t1⟩ := hfs 1 _ rfl
      obtain ⟨v2, y2, c2, t2⟩ := hfs 2 _ rfl
      obtain ⟨v3, y3, c3, t3⟩ := hfs 3 _ rfl
      obtain ⟨v4, y4, c4, t4⟩ := hfs 4 _ rfl
      obtain ⟨v5, y5, c5, t5⟩ := hfs 5 _ rfl
      obtain ⟨s0, e0, _, g0⟩ := DataW.trod_string Tryz.underlying9 t0
      obtain ⟨n1, e1, _, g1⟩ := DataW.trod_int Tryz.underlying3 t1
      obtain ⟨s2, e2, _, g2⟩ := DataW.trod_string Tryz.underlying9 t2
      obtain ⟨n3, e3, _, g3⟩ := DataW.trod_int Tryz.underlying3 t3
      obtain ⟨n4, e4, _, g4⟩ := DataW.trod_int Tryz.underlying3 t4
      obtain ⟨s5, e5, _, g5⟩ := DataW.trod_string Tryz.underlying9 t5
      simp only [List.cons.injEq, and_true] at e0 e1 e2 e3 e4 e5
      subst e0 e1 e2 e3 e4 e5
      have hspot : a.spot = none := by
        have h1 : ((a.add (i * 6)).add 0).spot = none := spotL c0
        by_cases h0 : i = 0
        · subst h0; simpa [Addr.add] using h1
        · obtain ⟨cs0, hc0, _⟩ := hi 0 (by omega)
          obtain ⟨_, hcl, hat⟩ := World.cells?_some hc0
          rw [cellsKeyL] at hcl hat
          have h2 := hat 0 (by omega)
          rw [List.getElem?_eq_getElem (by omega)] at h2
          have h3 := spotL h2
          simpa [Addr.add] using h3
      obtain ⟨b, off, sp⟩ := a
      simp only at hspot
      subst hspot
      have hadd : ∀ j, ((⟨b, off, none⟩ : Addr).add (i * 6)).add j = ⟨b, off + i * 6 + j, none⟩ := fun j => by rw [add_at, add_at]
      rw [hadd] at c0 c1 c2 c3 c4 c5
      have hbl : b < W.heap.size := by
        rcases Nat.lt_or_ge b W.heap.size with h | h
        · exact h
        · simp [World.cell?, Array.getElem?_eq_none h] at c0
      exact ⟨⟨s0, n1, s2, n3, n4, s5⟩, ⟨g0, wf64L g1, g2, wf64L g3, wf64L g4, g5⟩, b, off, rfl, hbl, c0, c1, c2, c3, c4, c5⟩
    obtain ⟨f, hf'⟩ := choose_lt each
    refine ⟨some a, (List.range len).map f, cap, by simp, fun k hk => ?_, by simpa using hl, by simp; omega, fun l hl' => ?_⟩
    · have hk' : k < len := by simpa using hk
      have := (hf' k hk').2
      simpa using this
    · obtain ⟨i, hi', rfl⟩ := List.mem_map.1 hl'
      exact (hf' i (List.mem_range.1 hi')).1
end
end Go.Proofs.YtopghlnoklajkaaGreatDoor

namespace Go.Proofs.YtopghlnoklajkaaGreatDoor
open Go.ChangeShapes Go.WideShapes Go.ChangeAt Go.RowKit Go.Deep

instance : Inhabited PutV := ⟨⟨0, 0, ⟨#[]⟩⟩⟩
section
variable {H : Type} {enc : TypeId × Value → H}
theorem cellsPutL : Tryz.prog.cellsOf 75 = 3 := by kernel_rfl
/-- One that came in. -/
def PutOkL (l : PutV) : Prop := (-9223372036854775808 ≤ l.at_ ∧ l.at_ ≤ 9223372036854775807) ∧ (-9223372036854775808 ≤ l.from_ ∧ l.from_ ≤ 9223372036854775807) ∧ l.text.size ≤ maxLen
set_option maxRecDepth 100000 in
theorem open_puts {W : World} {r : Reach} {b0 : Nat} {v : Value} {d : DataW H} {p : List MemPlace} (hv : Value.okWide Tryz.prog W r b0 33 v) (h : DataW.Trod enc Tryz.prog W 0 (fun _ => true) true 33 v d p) :
    ∃ x ls cap, v = .slice x (List.length ls) cap ∧ PutsAt W x ls ∧ ls.length ≤ cap ∧ ls.length ≤ maxLen ∧ ∀ l ∈ ls, PutOkL l := by
  obtain ⟨a0, len, cap, rfl⟩ := okWide_slice Tryz.underlying33 hv
  obtain ⟨fuel, hf⟩ := h
  rcases open_slice Tryz.underlying33 hf with ⟨hcs, _⟩ | ⟨a, len', cap', m, n, D, Pl, hcs, hb, hl, hm, hmm, _, hi⟩
  · simp [Value.cells] at hcs
    obtain ⟨rfl, rfl, rfl⟩ := hcs
    exact ⟨none, [], 0, rfl, fun k hk => absurd hk (by simp), by simp, by simp, fun l hl => by cases hl⟩
  · simp [Value.cells] at hcs
    obtain ⟨rfl, rfl, rfl⟩ := hcs
    simp only [if_true] at hmm
    have each : ∀ i, i < len → ∃ o : PutV, PutOkL o ∧ ∃ b off, (some a : Option Addr) = some ⟨b, off, none⟩ ∧ b < W.heap.size ∧ W.cell? ⟨b, off + i * 3, none⟩ = some (.int .i64 o.at_) ∧ W.cell? ⟨b, off + i * 3 + 1, none⟩ = some (.int .i64 o.from_) ∧ W.cell? ⟨b, off + i * 3 + 2, none⟩ = some (.string o.text) := by
      intro i hil
      obtain ⟨cs', hc, ht⟩ := hi i (by omega)
      rw [cellsPutL] at hc
      obtain ⟨n', hfs⟩ := fields_ofL Tryz.underlying75 (by kernel_rfl) hc ht
      obtain ⟨v0, y0, c0, t0⟩ := hfs 0 _ rfl
      obtain ⟨v1, y1, c1, t1⟩ := hfs 1 _ rfl
      obtain ⟨v2, y2, c2, t2⟩ := hfs 2 _ rfl
      obtain ⟨n0, e0, _, g0⟩ := DataW.trod_int Tryz.underlying3 t0
      obtain ⟨n1, e1, _, g1⟩ := DataW.trod_int Tryz.underlying3 t1
      obtain ⟨s2, e2, _, g2⟩ := DataW.trod_string Tryz.underlying9 t2
      simp only [List.cons.injEq, and_true] at e0 e1 e2
      subst e0 e1 e2
      have hspot : a.spot = none := by
        have h1 : ((a.add (i * 3)).add 0).spot = none := spotL c0
        by_cases h0 : i = 0
        · subst h0; simpa [Addr.add] using h1
        · obtain ⟨cs0, hc0, _⟩ := hi 0 (by omega)
          obtain ⟨_, hcl, hat⟩ := World.cells?_some hc0
          rw [cellsPutL] at hcl hat
          have h2 := hat 0 (by omega)
          rw [List.getElem?_eq_getElem (by omega)] at h2
          have h3 := spotL h2
          simpa [Addr.add] using h3
      obtain ⟨b, off, sp⟩ := a
      simp only at hspot
      subst hspot
      have hadd : ∀ j, ((⟨b, off, none⟩ : Addr).add (i * 3)).add j = ⟨b, off + i * 3 + j, none⟩ := fun j => by rw [add_at, add_at]
      rw [hadd] at c0 c1 c2
      have hbl : b < W.heap.size := by
        rcases Nat.lt_or_ge b W.heap.size with h | h
        · exact h
        · simp [World.cell?, Array.getElem?_eq_none h] at c0
      exact ⟨⟨n0, n1, s2⟩, ⟨wf64L g0, wf64L g1, g2⟩, b, off, rfl, hbl, c0, c1, c2⟩
    obtain ⟨f, hf'⟩ := choose_lt each
    refine ⟨some a, (List.range len).map f, cap, by simp, fun k hk => ?_, by simpa using hl, by simp; omega, fun l hl' => ?_⟩
    · have hk' : k < len := by simpa using hk
      have := (hf' k hk').2
      simpa using this
    · obtain ⟨i, hi', rfl⟩ := List.mem_map.1 hl'
      exact (hf' i (List.mem_range.1 hi')).1
end
end Go.Proofs.YtopghlnoklajkaaGreatDoor

namespace Go.Proofs.YtopghlnoklajkaaGreatDoor

/-- Within so many steps it does not come to the setting k. -/
def FarB (P : Nat → List PcB) (pl : List UInt8 → Option Nat) (k : Nat) : Nat → Nat → Prop
  | 0, i => i ≠ k
  | T + 1, i => i ≠ k ∧ ∀ p ∈ P i, p.2 = true → ∀ j, pl p.1 = some j → FarB P pl k T j
section
variable {P P2 : Nat → List PcB} {pl : List UInt8 → Option Nat} {k : Nat}
theorem FarB.ne : ∀ {T i : Nat}, FarB P pl k T i → i ≠ k := fun {T i} h => by
  cases T with
  | zero => exact h
  | succ T => exact h.1
/-- It is expanded as where k has another text. -/
theorem expF_far (hP : ∀ i, i ≠ k → P2 i = P i) : ∀ (T i : Nat), FarB P pl k T i → expF P2 pl (T + 1) i = expF P pl (T + 1) i := by
  intro T
  induction T with
  | zero =>
    intro i h
    unfold expF
    rw [hP i h]
    rfl
  | succ T ih =>
    intro i h
    unfold expF
    rw [hP i h.1]
    refine flatMap_same fun p hp => ?_
    unfold pieceX
    by_cases hr : p.2 = true
    · rw [if_pos hr, if_pos hr]
      cases hk : pl p.1 with
      | none => rfl
      | some j => exact ih j (h.2 p hp hr j hk)
    · rw [if_neg hr, if_neg hr]
end
/-- What is spoken of is there, by its name. -/
theorem plO_at {ns : List ByteArray} {l : List UInt8} {j : Nat} (h : plO ns l = some j) : ∃ hj : j < ns.length, ns[j].data.toList = l := by
  unfold plO at h
  split at h
  · rename_i h0
    have h1 := Option.some.inj h
    rcases placeN_cases ns ⟨l.toArray⟩ with h2 | ⟨q, hq, h2, h3⟩
    · omega
    · obtain rfl : q = j := by omega
      refine ⟨hq, ?_⟩
      rw [Lib.toList_data, Lib.toList_data] at h3
      have := eq_of_beq h3
      simpa using this
  · cases h
/-- One setting has another text; all else is the same. -/
structure OneTx (k : Nat) (ms ms2 : List SetM) : Prop where
  len : ms2.length = ms.length
  names : namesM ms2 = namesM ms
  other : ∀ i (h1 : i < ms2.length) (h2 : i < ms.length), i ≠ k → ms2[i].x = ms[i].x
theorem OneTx.same (k : Nat) (ms : List SetM) : OneTx k ms ms := ⟨rfl, rfl, fun _ _ _ _ => rfl⟩
theorem OneTx.put {ks : List KeyV} {ms ms2 : List SetM} {k : Nat} (hd : Dis (namesM ms)) (hk : k < ms.length) {v : Val} {fr E : Int} (h : PutIs ks ms ms[k].x.name v fr E ms2) : OneTx k ms ms2 := by
  rcases h with ⟨_, _, rfl⟩ | ⟨j, h1, h2, hp, ⟨_, _, rfl⟩ | ⟨_, _, _, rfl⟩ | ⟨_, _, _, y, d, rfl⟩⟩
  · exact .same _ _
  · exact .same _ _
  · exact .same _ _
  · have hkn : k < (namesM ms).length := by unfold namesM; rw [List.length_map]; exact hk
    have hps := place_self hd hkn
    have e : (namesM ms)[k] = ms[k].x.name := by simp [namesM]
    rw [e] at hps
    obtain rfl : j = k := by omega
    refine ⟨by rw [List.length_set], ?_, fun i a b hne => ?_⟩
    · unfold namesM
      refine List.ext_getElem (by simp) fun i a b => ?_
      rw [List.getElem_map, List.getElem_map, List.getElem_set]
      split
      · rename_i e2; subst e2; rfl
      · rfl
    · rw [List.getElem_set_ne (fun e2 => hne e2.symm)]
section
variable {k : Nat} {ms ms2 : List SetM}
theorem OneTx.tx (h : OneTx k ms ms2) {i : Nat} (hi : i ≠ k) : Tx ms2 i = Tx ms i := by
  unfold Tx
  by_cases hl : i < ms.length
  · rw [List.getElem?_eq_getElem hl, List.getElem?_eq_getElem (by rw [h.len]; exact hl)]
    simp only
    rw [h.other i (by rw [h.len]; exact hl) hl hi]
  · rw [List.getElem?_eq_none (l := ms2) (by rw [h.len]; omega), List.getElem?_eq_none (l := ms) (by omega)]
theorem OneTx.px (h : OneTx k ms ms2) {i : Nat} (hi : i ≠ k) : Px ms2 i = Px ms i := by unfold Px; rw [h.tx hi]
/-- A setting that does not lead to k is expanded as it is where k has another text. -/
theorem OneTx.exp (h : OneTx k ms ms2) {i : Nat} (hf : FarB (Px ms) (plO (namesM ms)) k ms.length i) : Ex ms2 i = Ex ms i := by
  unfold Ex expB
  rw [h.names, h.len]
  exact expF_far (fun j hj => h.px hj) ms.length i hf
theorem OneTx.expS_ (h : OneTx k ms ms2) {i : Nat} (h1 : i < ms2.length) (h2 : i < ms.length) (hf : FarB (Px ms) (plO (namesM ms)) k ms.length i) : expS ms2 i ms2[i].x = expS ms i ms[i].x := by
  unfold expS
  rw [h.other i h1 h2 hf.ne, h.exp hf]
end
/-- What is no text speaks of nothing. -/
theorem plain_far {ms : List SetM} {k i T : Nat} (hi : i < ms.length) (hr : rightV ms[i].x.val = true) (h5 : ms[i].x.val.kind ≠ 5) (hne : i ≠ k) : FarB (Px ms) (plO (namesM ms)) k T i := by
  cases T with
  | zero => exact hne
  | succ T =>
    refine ⟨hne, fun p hp hr2 => ?_⟩
    have hT : Tx ms i = printV ms[i].x.val := by rw [Tx_at hi]; unfold printR; rw [if_pos hr]
    have hP : Px ms i = [(printV ms[i].x.val, false)] := by unfold Px; rw [hT, pieces_noD (print_noD hr h5)]; rfl
    rw [hP, List.mem_singleton] at hp
    rw [hp] at hr2
    cases hr2
/-- So far marks tell which ones lead to k. -/
structure Lds (ms : List SetM) (k T i0 : Nat) (D : Nat → Bool) : Prop where
  old : ∀ i, i < ms.length → D i = false → FarB (Px ms) (plO (namesM ms)) k T i
  new : ∀ i, i < i0 → i < ms.length → D i = false → FarB (Px ms) (plO (namesM ms)) k (T + 1) i
theorem Lds.turn {ms : List SetM} {k T i0 : Nat} {D : Nat → Bool} (h : Lds ms k T i0 D) (hi : ms.length ≤ i0) : Lds ms k (T + 1) 0 D := ⟨fun i hl hd => h.new i (by omega) hl hd, fun i hl => by omega⟩
theorem Lds.plain {ms : List SetM} {k T i0 : Nat} {D : Nat → Bool} (h : Lds ms k T i0 D) (hi : i0 < ms.length) (hr : rightV ms[i0].x.val = true) (h5 : ms[i0].x.val.kind ≠ 5) : Lds ms k T (i0 + 1) D := ⟨h.old, fun i hl hn hd => by
  by_cases e : i = i0
  · subst e
    exact plain_far hi hr h5 (h.old i hn hd).ne
  · exact h.new i (by omega) hn hd⟩
/-- A text's marks: c: whether it leads; no j-th name of those before j0 (of the j0-th, none before m0) is marked, unless it does. -/
structure Led (ms : List SetM) (i0 : Nat) (D : Nat → Bool) (nms : List ByteArray) (j0 m0 : Nat) (c : Bool) : Prop where
  self : c = false → D i0 = false
  done : c = false → ∀ j (h : j < nms.length), j < j0 → ∀ m (h2 : m < ms.length), ms[m].x.name = nms[j] → D m = false
  now : c = false → ∀ (h : j0 < nms.length) m (h2 : m < ms.length), m < m0 → ms[m].x.name = nms[j0] → D m = false
section
variable {ms : List SetM} {i0 j0 m0 k T : Nat} {D : Nat → Bool} {nms : List ByteArray} {c : Bool}
theorem Led.start : Led ms i0 D nms 0 0 (D i0) := ⟨fun h => h, fun _ j _ hj => by omega, fun _ _ m _ hm => by omega⟩
theorem Led.row (h : Led ms i0 D nms j0 m0 c) (hm : ms.length ≤ m0) : Led ms i0 D nms (j0 + 1) 0 c := ⟨h.self, fun hc j hj hl m hm2 e => by
  by_cases e2 : j = j0
  · subst e2; exact h.now hc hj m hm2 (by omega) e
  · exact h.done hc j hj (by omega) m hm2 e, fun _ _ m _ hm => by omega⟩
theorem Led.yes : Led ms i0 D nms j0 m0 true := ⟨fun h => (by cases h), fun h => (by cases h), fun h => (by cases h)⟩
theorem Led.no (h : Led ms i0 D nms j0 m0 false) (hn : ∀ (hj : j0 < nms.length) (hm : m0 < ms.length), ms[m0].x.name = nms[j0] → D m0 = false) : Led ms i0 D nms j0 (m0 + 1) false := ⟨h.self, h.done, fun hc hj m hm hl e => by
  by_cases e2 : m = m0
  · subst e2; exact hn hj hm e
  · exact h.now hc hj m hm (by omega) e⟩
/-- A text's turn is done. -/
theorem Lds.text (h : Lds ms k T i0 D) (hl : Led ms i0 D nms j0 0 c) (hj : nms.length ≤ j0) (hi : i0 < ms.length) (hnm : ∀ p ∈ Px ms i0, p.2 = true → (⟨p.1.toArray⟩ : ByteArray) ∈ nms) : Lds ms k T (i0 + 1) (fun q => if q = i0 then c else D q) := by
  have hsub : ∀ q, (if q = i0 then c else D q) = false → D q = false := fun q hq => by
    split at hq
    · rename_i e; subst e; exact hl.self hq
    · exact hq
  refine ⟨fun i hn hd => h.old i hn (hsub i hd), fun i hlt hn hd => ?_⟩
  by_cases e : i = i0
  · subst e
    rw [if_pos rfl] at hd
    refine ⟨(h.old i hn (hl.self hd)).ne, fun p hp hr j hpj => ?_⟩
    obtain ⟨hjl, hje⟩ := plO_at hpj
    have hjm : j < ms.length := by unfold namesM at hjl; rw [List.length_map] at hjl; exact hjl
    obtain ⟨q, hq, hqe⟩ := List.getElem_of_mem (hnm p hp hr)
    refine h.old j hjm (hl.done hd q hq (by omega) j hjm ?_)
    rw [hqe]
    have e1 : (namesM ms)[j] = ms[j].x.name := by simp [namesM]
    rw [e1] at hje
    rw [← mkB_self ms[j].x.name, hje]
    rfl
  · rw [if_neg e] at hd
    exact h.new i (by omega) hn hd
theorem Lds.start : Lds ms k 0 0 (fun q => decide (q = k)) := ⟨fun i _ hd => (by simpa using hd : i ≠ k), fun i h => by omega⟩
end
end Go.Proofs.YtopghlnoklajkaaGreatDoor
