/-
  LayGet.
-/
import Derived.Test.YtopghlnoklajkaaGreatDoorQLayPut
namespace Go.Proofs.YtopghlnoklajkaaGreatDoor
open Go.ChangeShapes Go.WideShapes Go.ChangeAt Go.RowKit

def sVal (nm : ByteArray) (v : Val) (y : Option Addr) (d : Nat) (fr : Int) : Value := .agg #[.string nm, .int .i64 v.kind, .int .i64 v.int, .string v.text, .slice y v.words.length d, .int .i64 fr]
def zVal : Value := .agg #[.string ⟨#[]⟩, .int .i64 0, .int .i64 0, .string ⟨#[]⟩, .slice none 0 0, .int .i64 0]
/-- What Get answers. -/
def GtRes (w : World) (ms : List SetM) (s : ByteArray) (e : Ending) (w' : World) : Prop := Below w.heap.size w w' ∧
  ((placeN (namesM ms) s = -1 ∧ e = .returned (.tuple #[zVal, .bool false])) ∨ ∃ j, ∃ h : j < ms.length, placeN (namesM ms) s = (j : Int) ∧ ∃ y d, e = .returned (.tuple #[sVal (ms[j]).x.name (ms[j]).x.val y d (ms[j]).x.from_, .bool true]) ∧
    w'.ownsRow w.heap.size 9 1 (.slice y (ms[j]).x.val.words.length d) (ms[j]).x.val.words.length ((ms[j]).x.val.words.map Value.string))
theorem sBlock (w : World) (t : TypeId) : (w.alloc (Obj.cells #[.string ⟨#[]⟩, .int .i64 0, .int .i64 0, .string ⟨#[]⟩, .slice none 0 0, .int .i64 0] t)).heap[w.heap.size]? = some (Obj.cells #[.string ⟨#[]⟩, .int .i64 0, .int .i64 0, .string ⟨#[]⟩, .slice none 0 0, .int .i64 0] t) := heap_alloc_new w _
set_option maxHeartbeats 3200000 in
set_option maxRecDepth 100000 in
theorem lget_any (F : Nat → Prop) (X : Nat) (w : World) (dx hx : Option Addr) (dc hc : Nat) (ks : List KeyV) (ms : List SetM) (h : LayAt F w X dx dc hx hc ks ms) (hok : LayOk ks ms) (hs : Sorted ks) (hd : Dis (namesM ms)) (hn : ms.length ≤ 1000) (s : ByteArray) :
    Calls Tryz.prog 25 #[.pointer (some ⟨X, 0, none⟩), .string s] w (GtRes w ms s) := by
  have hlen := hok.len
  have HPL : Hid (∀ o, Calls Tryz.prog 44 #[.slice dx ks.length dc, .string s] (w.alloc o) (FoundRes ks s (w.alloc o))) := Lib.hid fun o => lplace_any F ks s dx dc (w.alloc o) (h.below (below_one w o)).defs (hs.mono _) (by omega)
  have HST : Hid (∀ W, Below w.heap.size w W → ∀ i (hi : i < ms.length), Calls Tryz.prog 42 #[.pointer (some ⟨X, 0, none⟩), .int .i64 i] W fun e w' => ∃ y d, e = .returned (.agg #[.string (ms[i]).x.name, .int .i64 (ms[i]).x.val.kind, .int .i64 (ms[i]).x.val.int, .string (ms[i]).x.val.text, .slice y (ms[i]).x.val.words.length d, .int .i64 (ms[i]).x.from_]) ∧ w'.ownsRow W.heap.size 9 1 (.slice y (ms[i]).x.val.words.length d) (ms[i]).x.val.words.length ((ms[i]).x.val.words.map Value.string) ∧ Below W.heap.size W w') := Lib.hid fun W hb i hi =>
    lsetting_any F X W dx hx dc hc ks ms (h.below hb) hok i hi
  have xa : ∀ o, (w.alloc o).cell? ⟨X, 0, none⟩ = some (.slice dx ks.length dc) := fun o => (h.below (below_one w o)).cells.1
  have HL := Lib.hid (And.intro hok (And.intro hs hd))
  have HB0 : Hid (∀ o, Below w.heap.size w (w.alloc o) ∧ (w.alloc o).heap.size = w.heap.size + 1) := Lib.hid fun o => ⟨below_one w o, by simp⟩
  obtain ⟨n, hn'⟩ : ∃ n, ks.length = n := ⟨_, rfl⟩
  have HN := Lib.hid hn'
  rw [hn'] at HPL
  simp only [hn'] at xa
  clear h hok hs hd hn hlen hn'
  go_enter Tryz.func25, Tryz.ntmps25
  go_wp2_with fail
  clear xa
  refine (HPL.out _).mono ?_
  rintro e w1 ⟨i, hpi, rfl, hb1⟩
  have HFF := Lib.hid (found_is HL.out.2.1 hpi)
  have hbw := (HB0.out (Obj.cells #[.string ⟨#[]⟩, .int .i64 0, .int .i64 0, .string ⟨#[]⟩, .slice none 0 0, .int .i64 0] 50)).1
  have HB1 := Lib.hid (hbw.trans (hb1.mono hbw.size))
  have hR1 := (hb1.block w.heap.size (by rw [(HB0.out _).2]; omega)).trans (sBlock w 50)
  have hsz1 : w.heap.size + 1 ≤ w1.heap.size := by have := hb1.size; rw [(HB0.out _).2] at this; exact this
  have HR1 := Lib.hid (And.intro hR1 hsz1)
  clear hb1 hpi HPL HB0 hbw hR1 hsz1
  by_cases hf : i < ks.length ∧ cmpAt ks s i = 0
  · obtain ⟨hi, h0⟩ := hf
    have hpn := place_found HL.out.1 HL.out.2.2 hi h0
    have him : i < ms.length := by rw [HL.out.1.len]; exact hi
    rw [show (decide (i < ks.length) && decide (cmpAt ks s i = 0)) = true by rw [decide_eq_true hi, decide_eq_true h0]; rfl]
    have HS1 := Lib.hid (HST.out w1 HB1.out i him)
    have HPN : Hid (∃ h : i < ms.length, placeN (namesM ms) s = (i : Int)) := Lib.hid ⟨him, hpn⟩
    have HGT : Hid (∀ w' y d, Below w.heap.size w w' → w'.ownsRow w.heap.size 9 1 (.slice y (ms[i]).x.val.words.length d) (ms[i]).x.val.words.length ((ms[i]).x.val.words.map Value.string) → GtRes w ms s (.returned (.tuple #[sVal (ms[i]).x.name (ms[i]).x.val y d (ms[i]).x.from_, .bool true])) w') := Lib.hid fun w' y d h1 h2 => ⟨h1, .inr ⟨i, him, hpn, y, d, rfl, h2⟩⟩
    clear h0 hpn HFF HST HL hi HN
    generalize ms[i] = m at *
    obtain ⟨⟨nm, ⟨kd, it, tx, ws⟩, fr⟩, a, mc⟩ := m
    unfold sVal at HGT
    simp only at HS1 HGT
    obtain ⟨nw, hnw⟩ : ∃ nw, ws.length = nw := ⟨_, rfl⟩
    rw [hnw] at HS1 HGT
    clear hnw him HPN
    go_wp2_with fail
    refine HS1.out.mono ?_
    rintro e w2 ⟨y, d, rfl, hr2, hb2⟩
    have hR2 := (hb2.block w.heap.size (by have := HR1.out.2; omega)).trans HR1.out.1
    have c0 := cell_of_row w2 w.heap.size 0 _ _ _ hR2
    have c1 := cell_of_row w2 w.heap.size 1 _ _ _ hR2
    have c2 := cell_of_row w2 w.heap.size 2 _ _ _ hR2
    have c3 := cell_of_row w2 w.heap.size 3 _ _ _ hR2
    have c4 := cell_of_row w2 w.heap.size 4 _ _ _ hR2
    have c5 := cell_of_row w2 w.heap.size 5 _ _ _ hR2
    replace c0 : w2.cell? ⟨w.heap.size, 0, none⟩ = some (.string ⟨#[]⟩) := c0
    replace c1 : w2.cell? ⟨w.heap.size, 1, none⟩ = some (.int .i64 0) := c1
    replace c2 : w2.cell? ⟨w.heap.size, 2, none⟩ = some (.int .i64 0) := c2
    replace c3 : w2.cell? ⟨w.heap.size, 3, none⟩ = some (.string ⟨#[]⟩) := c3
    replace c4 : w2.cell? ⟨w.heap.size, 4, none⟩ = some (.slice none 0 0) := c4
    replace c5 : w2.cell? ⟨w.heap.size, 5, none⟩ = some (.int .i64 0) := c5
    have z : ∀ j, w2.frozen? ⟨w.heap.size, j, none⟩ = false := fun j => by simp [World.frozen?, hR2]
    have z0 := z 0
    have z1 := z 1
    have z2 := z 2
    have z3 := z 3
    have z4 := z 4
    have z5 := z 5
    have HF := Lib.hid (six_set (S := w.heap.size) (B := w1.heap.size) (.string nm) (.int .i64 kd) (.int .i64 it) (.string tx) (.slice y nw d) (.int .i64 fr) (HB1.out.trans (hb2.mono HB1.out.size)) (Nat.le_refl _) (cells6 c0 c1 c2 c3 c4 c5) (by have := HR1.out.2; omega) hr2)
    obtain ⟨_, _, hc6⟩ := HF.out
    have m0 := hc6 0 _ rfl
    have m1 := hc6 1 _ rfl
    have m2 := hc6 2 _ rfl
    have m3 := hc6 3 _ rfl
    have m4 := hc6 4 _ rfl
    have m5 := hc6 5 _ rfl
    have HE := Lib.hid (HGT.out _ y d HF.out.1 HF.out.2.1)
    clear hc6 z hR2 hr2 hb2 HS1 HR1 HB1 HGT HF
    go_wp2
    exact bodyPost_ret (v := .tuple #[.agg #[.string nm, .int .i64 kd, .int .i64 it, .string tx, .slice y nw d, .int .i64 fr], .bool true]) (by simp [results, Tryz.results25, go_sem, m0, m1, m2, m3, m4, m5]) rfl HE.out
  · have hF : (decide (i < ks.length) && decide (cmpAt ks s i = 0)) = false := by
      rw [Bool.and_eq_false_iff]
      by_cases h1 : i < ks.length
      · exact Or.inr (decide_eq_false (fun h2 => hf ⟨h1, h2⟩))
      · exact Or.inl (decide_eq_false h1)
    have hpl := place_lost HL.out.1 (HFF.out.symm.trans hF)
    have HGT : Hid (∀ w', Below w.heap.size w w' → GtRes w ms s (.returned (.tuple #[zVal, .bool false])) w') := Lib.hid fun w' h1 => ⟨h1, .inl ⟨hpl, rfl⟩⟩
    rw [hF]
    have hR2 := HR1.out.1
    have c0 := cell_of_row w1 w.heap.size 0 _ _ _ hR2
    have c1 := cell_of_row w1 w.heap.size 1 _ _ _ hR2
    have c2 := cell_of_row w1 w.heap.size 2 _ _ _ hR2
    have c3 := cell_of_row w1 w.heap.size 3 _ _ _ hR2
    have c4 := cell_of_row w1 w.heap.size 4 _ _ _ hR2
    have c5 := cell_of_row w1 w.heap.size 5 _ _ _ hR2
    replace c0 : w1.cell? ⟨w.heap.size, 0, none⟩ = some (.string ⟨#[]⟩) := c0
    replace c1 : w1.cell? ⟨w.heap.size, 1, none⟩ = some (.int .i64 0) := c1
    replace c2 : w1.cell? ⟨w.heap.size, 2, none⟩ = some (.int .i64 0) := c2
    replace c3 : w1.cell? ⟨w.heap.size, 3, none⟩ = some (.string ⟨#[]⟩) := c3
    replace c4 : w1.cell? ⟨w.heap.size, 4, none⟩ = some (.slice none 0 0) := c4
    replace c5 : w1.cell? ⟨w.heap.size, 5, none⟩ = some (.int .i64 0) := c5
    have z : ∀ j, w1.frozen? ⟨w.heap.size, j, none⟩ = false := fun j => by simp [World.frozen?, hR2]
    have z0 := z 0
    have z1 := z 1
    have z2 := z 2
    have z3 := z 3
    have z4 := z 4
    have z5 := z 5
    have HF := Lib.hid (six_set (S := w.heap.size) (B := w.heap.size + 1) (n := 0) (v := .slice none 0 0) (xs := []) (.string ⟨#[]⟩) (.int .i64 0) (.int .i64 0) (.string ⟨#[]⟩) (.slice none 0 0) (.int .i64 0) HB1.out (Nat.le_refl _) (cells6 c0 c1 c2 c3 c4 c5) (by omega) (World.ownsRow_nil _ _ _ _))
    obtain ⟨_, _, hc6⟩ := HF.out
    have m0 := hc6 0 _ rfl
    have m1 := hc6 1 _ rfl
    have m2 := hc6 2 _ rfl
    have m3 := hc6 3 _ rfl
    have m4 := hc6 4 _ rfl
    have m5 := hc6 5 _ rfl
    have HE := Lib.hid (HGT.out _ HF.out.1)
    unfold zVal at HE
    clear hc6 z hR2 hf hF HFF HST HL HR1 HB1 HGT HF hpl HN
    go_wp2
    exact bodyPost_ret (v := .tuple #[.agg #[.string ⟨#[]⟩, .int .i64 0, .int .i64 0, .string ⟨#[]⟩, .slice none 0 0, .int .i64 0], .bool false]) (by simp [results, Tryz.results25, go_sem, m0, m1, m2, m3, m4, m5]) rfl HE.out
set_option maxRecDepth 100000 in
theorem lcopy_any (F : Nat → Prop) (X : Nat) (w : World) (dx hx : Option Addr) (dc hc : Nat) (ks : List KeyV) (ms : List SetM) (h : LayAt F w X dx dc hx hc ks ms) :
    Calls Tryz.prog 14 #[.pointer (some ⟨X, 0, none⟩)] w fun e w' => e = .returned (.pointer (some ⟨w.heap.size, 0, none⟩)) ∧ LayAt F w' w.heap.size dx dc hx hc ks ms ∧ Below w.heap.size w w' := by
  obtain ⟨x0, x1⟩ := h.cells
  have HE : Hid (LayAt F (w.alloc (Obj.cells #[.slice dx ks.length dc, .slice hx ms.length hc] 85)) w.heap.size dx dc hx hc ks ms ∧ Below w.heap.size w (w.alloc (Obj.cells #[.slice dx ks.length dc, .slice hx ms.length hc] 85))) := Lib.hid (by
    have hb := below_one w (Obj.cells #[.slice dx ks.length dc, .slice hx ms.length hc] 85)
    have h2 := h.below hb
    exact ⟨⟨heap_alloc_new w _, h2.defs, h2.held, fun hF => by have := h.lt _ hF; omega, h.room, h2.lt⟩, hb⟩)
  clear h
  generalize ks.length = n at *
  generalize ms.length = m at *
  go_enter Tryz.func14, Tryz.ntmps14
  go_wp2
  go_ret
  exact ⟨rfl, HE.out⟩
end Go.Proofs.YtopghlnoklajkaaGreatDoor
