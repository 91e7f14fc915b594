/-
  StpLent, StpApplies0.
-/
import Derived.Test.YticcdighfojjjaaGreatDoorQPrOwn
import Derived.Test.YticcdighfojjjaaGreatDoorQStpSame
import Derived.Test.YticcdighfojjjaaGreatDoorQPrPl
import Derived.Test.YticcdighfojjjaaGreatDoorQPrOwnedW
import Derived.Test.YticcdighfojjjaaGreatDoorQStpAwake
import Derived.Test.YticcdighfojjjaaGreatDoorQStpWeigh2
namespace Go.Proofs.YticcdighfojjjaaGreatDoor
open Go.ChangeShapes Go.WideShapes Go.ChangeAt Go.RowKit

def spareP : PairV := ⟨⟨#[115, 112, 97, 114, 101]⟩, ⟨#[]⟩, ⟨#[]⟩⟩
def overP : PairV := ⟨⟨#[111, 118, 101, 114]⟩, ⟨#[]⟩, ⟨#[]⟩⟩
/-- What lent makes. -/
def lentP (ps : List PairV) : List PairV := ps ++ [spareP, zP, zP]
theorem lent_putP (ps : List PairV) (h : ps.length < (ps ++ List.replicate 3 zP).length) : (ps ++ List.replicate 3 zP).set ps.length ⟨⟨#[115, 112, 97, 114, 101]⟩, ((ps ++ List.replicate 3 zP)[ps.length]).key, ((ps ++ List.replicate 3 zP)[ps.length]).value⟩ = lentP ps := by
  have e : (ps ++ List.replicate 3 zP)[ps.length] = zP := by rw [List.getElem_append_right (Nat.le_refl _)]; simp
  rw [e, List.set_append_right _ _ (Nat.le_refl _)]
  simp [lentP, List.replicate]
  rfl
theorem grown_of_belowS {w w' : World} (h : Below w.heap.size w w') (row : Option Nat) : w.grownBy w' row := ⟨h.os, h.tape, h.output, h.size, fun k hk _ => h.block k hk⟩
set_option maxHeartbeats 3200000 in
set_option maxRecDepth 100000 in
theorem plent_any (ps : List PairV) (x : Option Addr) (n c : Nat) (w : World) (h : PrsAt w x ps) (hn : ps.length = n) (hl : n ≤ 2147483647) :
    Calls Tryz.prog 22 #[.slice x n c] w fun e w' => ∃ g, e = .returned (.slice (some ⟨g, 0, none⟩) (n + 3) (n + 3)) ∧ w.heap.size ≤ g ∧ RowPr w' g (lentP ps) ∧ Below w.heap.size w w' := by
  obtain ⟨CS, hCS⟩ : ∃ CS, (pFlat (List.replicate (n + 3) zP)).toArray = CS := ⟨_, rfl⟩
  have hmk : ∀ W : World, (Instr.makeSlice 37 (.int .i64 ((n : Int) + 3)) (.int .i64 ((n : Int) + 3))).run Tryz.prog W = .ok (.slice (some ⟨W.heap.size, 0, none⟩) (n + 3) (n + 3)) (W.alloc (Obj.cells CS 51)) := fun W => by
    have := run_madeP W (n + 3) (by omega)
    rw [hCS] at this
    exact this
  have HCP : Hid (∃ W', (∀ ty : TypeId, (Builtin.copy_ #[37, 37] ty #[.slice (some ⟨w.heap.size, 0, none⟩) (n + 3) (n + 3), .slice x n c]).run Tryz.prog (w.alloc (Obj.cells CS 51)) = .ok (goInt n) W') ∧ RowPr W' w.heap.size (ps ++ List.replicate 3 zP) ∧ Below w.heap.size w W') := Lib.hid (by
    have b1 := below_one w (Obj.cells CS 51)
    have hrow : RowPr (w.alloc (Obj.cells CS 51)) w.heap.size (List.replicate (n + 3) zP) := by
      unfold RowPr
      rw [hCS]
      exact heap_alloc_new _ _
    obtain ⟨W', h1, h2, h3⟩ := run_copyP (w.alloc (Obj.cells CS 51)) w.heap.size n c 3 x ps hn hrow (h.below b1)
    exact ⟨W', h1, h3, b1.trans (h2.below (Nat.le_refl _) b1.size)⟩)
  have w1' : IntKind.i64.wrap ((n : Int) + 3) = (n : Int) + 3 := IntWalk.i64_in _ (by omega)
  have q6 : (0 : Int) ≤ n := by omega
  have q7 : (n : Int) < (n : Int) + 3 := by omega
  obtain ⟨w6, hcp, hr6, hb6⟩ := HCP.out
  have hlt : n < (ps ++ List.replicate 3 zP).length := by simp; omega
  have c1 : w6.cell? ⟨w.heap.size, n * 3, none⟩ = some (.string ⟨#[]⟩) := by
    rw [hr6.at0 hlt]
    congr 2
    rw [List.getElem_append_right (by omega), List.getElem_replicate]; rfl
  have f1 := hr6.frozen (n * 3)
  have HF : Hid (RowPr (w6.setCell ⟨w.heap.size, n * 3, none⟩ (.string ⟨#[115, 112, 97, 114, 101]⟩)) w.heap.size (lentP ps)) := Lib.hid (by
    subst hn
    have := hr6.table hlt ⟨#[115, 112, 97, 114, 101]⟩
    rw [lent_putP ps hlt] at this
    exact this)
  have HB : Hid (Below w.heap.size w (w6.setCell ⟨w.heap.size, n * 3, none⟩ (.string ⟨#[115, 112, 97, 114, 101]⟩))) := Lib.hid (hb6.setCell (p := ⟨w.heap.size, n * 3, none⟩) (Nat.le_refl _) _)
  clear hr6 hb6 HCP hCS h hn hlt
  go_enter Tryz.func22, Tryz.ntmps22
  go_wp2_with (at_builtin; refine wpList_copy_eq rfl _ _ _ _ rfl _ _ _ rfl rfl (hcp _) ?_)
  go_ret
  exact ⟨_, rfl, Nat.le_refl _, HF.out, HB.out⟩
theorem pslice_to (b off n c k : Nat) (hk : k ≤ c) (W : World) : (Instr.slice 37 (.slice (some ⟨b, off, none⟩) n c) none (some (.int .i64 (k : Int))) none).run Tryz.prog W = .ok (.slice (some ⟨b, off, none⟩) k c) W := by
  rw [run_slice_h W _ _ _ _ elemPr .i64 (k : Int) (by omega) (by omega), sizePr]
  show Result.ok (sliced _ _ _ _ _) W = _
  unfold sliced
  congr 2
  split
  · rfl
  · simp [Addr.add]
set_option maxHeartbeats 3200000 in
set_option maxRecDepth 100000 in
theorem pwhole_any (ps : List PairV) (g : Nat) (x : Option Addr) (n c : Nat) (w : World) (hg : RowPr w g (lentP ps)) (h : PrsAt w x ps) (hn : ps.length = n) (hl : n ≤ 2147483647) :
    Calls Tryz.prog 24 #[.slice (some ⟨g, 0, none⟩) (n + 3) (n + 3), .slice x n c] w fun e w' => e = .returned (.bool true) ∧ w.grownBy w' (some g) := by
  have hll : (lentP ps).length = n + 3 := by unfold lentP; rw [List.length_append, hn]; rfl
  have hsl : ∀ W : World, (Instr.slice 37 (.slice (some ⟨g, 0, none⟩) (n + 3) (n + 3)) none (some (.int .i64 (n : Int))) none).run Tryz.prog W = .ok (.slice (some ⟨g, 0, none⟩) n (n + 3)) W := fun W => pslice_to g 0 (n + 3) (n + 3) n (by omega) W
  have HSA : Hid (Calls Tryz.prog 27 #[.slice (some ⟨g, 0, none⟩) n (n + 3), .slice x n c] w fun e w' => e = .returned (.bool true) ∧ Below w.heap.size w w') := Lib.hid (by
    have := lsame_any ps ps (some ⟨g, 0, none⟩) x n n (n + 3) c w (by have := hg.prs; unfold lentP at this; exact this.left) h hn hn (by omega)
    rw [sameB_self] at this
    exact this)
  have HG := Lib.hid hg
  have HLL := Lib.hid hll
  have at0 : (lentP ps)[n]'(by omega) = spareP := by unfold lentP; rw [List.getElem_append_right (by omega)]; simp [hn]
  have at1 : (lentP ps)[n + 1]'(by omega) = zP := by unfold lentP; rw [List.getElem_append_right (by omega)]; simp [hn]
  have at2 : (lentP ps)[n + 2]'(by omega) = zP := by unfold lentP; rw [List.getElem_append_right (by omega)]; simp [hn]
  have HCC : Hid (∀ W, Below w.heap.size w W → (W.cell? ⟨g, n * 3, none⟩ = some (.string ⟨#[115, 112, 97, 114, 101]⟩) ∧ W.cell? ⟨g, n * 3 + 1, none⟩ = some (.string ⟨#[]⟩) ∧ W.cell? ⟨g, n * 3 + 2, none⟩ = some (.string ⟨#[]⟩)) ∧ (W.cell? ⟨g, (n + 1) * 3, none⟩ = some (.string ⟨#[]⟩) ∧ W.cell? ⟨g, (n + 1) * 3 + 1, none⟩ = some (.string ⟨#[]⟩) ∧ W.cell? ⟨g, (n + 1) * 3 + 2, none⟩ = some (.string ⟨#[]⟩)) ∧ (W.cell? ⟨g, (n + 2) * 3, none⟩ = some (.string ⟨#[]⟩) ∧ W.cell? ⟨g, (n + 2) * 3 + 1, none⟩ = some (.string ⟨#[]⟩) ∧ W.cell? ⟨g, (n + 2) * 3 + 2, none⟩ = some (.string ⟨#[]⟩))) := Lib.hid fun W hb => by
    have hW := hg.below hb
    refine ⟨⟨?_, ?_, ?_⟩, ⟨?_, ?_, ?_⟩, ⟨?_, ?_, ?_⟩⟩
    · rw [hW.at0 (by omega), at0]; rfl
    · rw [hW.at1 (by omega), at0]; rfl
    · rw [hW.at2 (by omega), at0]; rfl
    · rw [hW.at0 (by omega), at1]; rfl
    · rw [hW.at1 (by omega), at1]; rfl
    · rw [hW.at2 (by omega), at1]; rfl
    · rw [hW.at0 (by omega), at2]; rfl
    · rw [hW.at1 (by omega), at2]; rfl
    · rw [hW.at2 (by omega), at2]; rfl
  have he1 := eqlPr ⟨#[115, 112, 97, 114, 101]⟩ ⟨#[]⟩ ⟨#[]⟩ ⟨#[115, 112, 97, 114, 101]⟩ ⟨#[]⟩ ⟨#[]⟩
  rw [show eqPr ⟨⟨#[115, 112, 97, 114, 101]⟩, ⟨#[]⟩, ⟨#[]⟩⟩ ⟨⟨#[115, 112, 97, 114, 101]⟩, ⟨#[]⟩, ⟨#[]⟩⟩ = true from eqPr_iff.2 rfl] at he1
  have he2 := eqlPr ⟨#[]⟩ ⟨#[]⟩ ⟨#[]⟩ ⟨#[]⟩ ⟨#[]⟩ ⟨#[]⟩
  rw [show eqPr ⟨⟨#[]⟩, ⟨#[]⟩, ⟨#[]⟩⟩ ⟨⟨#[]⟩, ⟨#[]⟩, ⟨#[]⟩⟩ = true from eqPr_iff.2 rfl] at he2
  have hgd := eqlPr_guard
  have q0 : (0 : Int) ≤ n := by omega
  have q00 : (n : Int) < (n : Int) + 3 := by omega
  have q01 : (n : Int) + 1 < (n : Int) + 3 := by omega
  have q02 : (n : Int) + 2 < (n : Int) + 3 := by omega
  have q03 : (0 : Int) ≤ (n : Int) + 1 := by omega
  have q04 : (0 : Int) ≤ (n : Int) + 2 := by omega
  have w1' : IntKind.i64.wrap ((n : Int) + 1) = (n : Int) + 1 := IntWalk.i64_in _ (by omega)
  have w2' : IntKind.i64.wrap ((n : Int) + 2) = (n : Int) + 2 := IntWalk.i64_in _ (by omega)
  clear hg h hn hll at0 at1 at2
  go_enter Tryz.func24, Tryz.ntmps24
  go_wp2_with fail
  refine HSA.out.mono ?_
  rintro e w2 ⟨rfl, hb⟩
  obtain ⟨⟨a0, a1, a2⟩, ⟨b0, b1, b2⟩, ⟨d0, d1, d2⟩⟩ := HCC.out _ hb
  have HR : Hid (∃ us, RowPr w2 g us ∧ us.length = n + 3 ∧ w.grownBy w2 (some g)) := Lib.hid ⟨_, HG.out.below hb, HLL.out, grown_of_belowS hb _⟩
  clear hb HSA HCC HG HLL
  go_wp2
  go_loopw [6] (fun i wr => ∃ t : Nat, i = .int .i64 t ∧ t ≤ n + 3 ∧ Hid (∃ us, RowPr wr g us ∧ us.length = n + 3 ∧ w.grownBy wr (some g))) (fun i _ => n + 3 - (intOf i).toNat)
  case atStart => exact ⟨0, rfl, by omega, HR⟩
  case round =>
    clear HR a0 a1 a2 b0 b1 b2 d0 d1 d2
    obtain ⟨t, rfl, ht, HR⟩ := hrel
    by_cases hlt : t < n + 3
    · obtain ⟨us, h1, h2, h3⟩ := HR.out
      have htu : t < us.length := by omega
      have c0 := h1.at0 htu
      have c1 := h1.at1 htu
      have c2 := h1.at2 htu
      have f0 := h1.frozen (t * 3)
      have f1 := h1.frozen (t * 3 + 1)
      have f2 := h1.frozen (t * 3 + 2)
      have HH : Hid (∃ us, RowPr (((wr.setCell ⟨g, t * 3, none⟩ (.string ⟨#[111, 118, 101, 114]⟩)).setCell ⟨g, t * 3 + 1, none⟩ (.string ⟨#[]⟩)).setCell ⟨g, t * 3 + 2, none⟩ (.string ⟨#[]⟩)) g us ∧ us.length = n + 3 ∧ w.grownBy (((wr.setCell ⟨g, t * 3, none⟩ (.string ⟨#[111, 118, 101, 114]⟩)).setCell ⟨g, t * 3 + 1, none⟩ (.string ⟨#[]⟩)).setCell ⟨g, t * 3 + 2, none⟩ (.string ⟨#[]⟩)) (some g)) := Lib.hid ⟨_, h1.put htu overP, by rw [List.length_set]; exact h2, h3.trans ⟨rfl, rfl, rfl, by simp [World.setCell], fun q _ hne => by
        have hq : q ≠ g := fun e => hne (by rw [e])
        rw [Below.heap_setCell _ _ _ _ hq, Below.heap_setCell _ _ _ _ hq, Below.heap_setCell _ _ _ _ hq]⟩⟩
      have q1 : (0 : Int) ≤ t := by omega
      have q2 : (t : Int) < (n : Int) + 3 := by omega
      generalize us[t].table = u0 at c0
      generalize us[t].key = u1 at c1
      generalize us[t].value = u2 at c2
      clear h1 h2 h3 htu HR
      go_wp2
      go_roundw
      case rel => exact ⟨t + 1, by go_num, by omega, HH⟩
      case measure => simp [intOf]; omega
    · have q2 : ¬ (t : Int) < (n : Int) + 3 := by omega
      obtain ⟨us, h1, h2, h3⟩ := HR.out
      clear h1 h2 HR
      go_wp2
      go_ret
      exact ⟨rfl, h3⟩
end Go.Proofs.YticcdighfojjjaaGreatDoor

namespace Go.Proofs.YticcdighfojjjaaGreatDoor
open Go.ChangeShapes Go.WideShapes Go.ChangeAt Go.RowKit

/-- The four steps that are asked. -/
def askS (s o : StepV) (k : Nat) : StepV := if k = 2 then o else s
theorem ask_cells (w5 : World) (t : TypeId) (s o : StepV) (k : Nat) (hk : k < 4) (W : World)
    (hb : Below (w5.alloc (Obj.cells #[.int .i64 s.kind, .string s.table, .string s.key, .string s.to, .string s.text, .int .i64 s.kind, .string s.table, .string s.key, .string s.to, .string s.text, .int .i64 o.kind, .string o.table, .string o.key, .string o.to, .string o.text, .int .i64 s.kind, .string s.table, .string s.key, .string s.to, .string s.text] t)).heap.size (w5.alloc (Obj.cells #[.int .i64 s.kind, .string s.table, .string s.key, .string s.to, .string s.text, .int .i64 s.kind, .string s.table, .string s.key, .string s.to, .string s.text, .int .i64 o.kind, .string o.table, .string o.key, .string o.to, .string o.text, .int .i64 s.kind, .string s.table, .string s.key, .string s.to, .string s.text] t)) W) :
    W.cell? ⟨w5.heap.size, k * 5, none⟩ = some (.int .i64 (askS s o k).kind) ∧ W.cell? ⟨w5.heap.size, k * 5 + 1, none⟩ = some (.string (askS s o k).table) ∧ W.cell? ⟨w5.heap.size, k * 5 + 2, none⟩ = some (.string (askS s o k).key) ∧ W.cell? ⟨w5.heap.size, k * 5 + 3, none⟩ = some (.string (askS s o k).to) ∧ W.cell? ⟨w5.heap.size, k * 5 + 4, none⟩ = some (.string (askS s o k).text) := by
  have hc : ∀ j, W.cell? ⟨w5.heap.size, j, none⟩ = #[Value.int .i64 s.kind, .string s.table, .string s.key, .string s.to, .string s.text, .int .i64 s.kind, .string s.table, .string s.key, .string s.to, .string s.text, .int .i64 o.kind, .string o.table, .string o.key, .string o.to, .string o.text, .int .i64 s.kind, .string s.table, .string s.key, .string s.to, .string s.text][j]? := fun j => by
    rw [hb.cell (p := ⟨w5.heap.size, j, none⟩) (by simp), World.cell?_alloc_at _ _ _ _ rfl]
  have h4 : k = 0 ∨ k = 1 ∨ k = 2 ∨ k = 3 := by omega
  rcases h4 with rfl | rfl | rfl | rfl
  all_goals exact ⟨by rw [hc]; rfl, by rw [hc]; rfl, by rw [hc]; rfl, by rw [hc]; rfl, by rw [hc]; rfl⟩
theorem ask_ok {s o : StepV} (hs : StepOk s) (ho : StepOk o) (k : Nat) : StepOk (askS s o k) := by
  unfold askS
  split <;> assumption
/-- Where the document's list lies: with what was handed in, or anew. -/
theorem PLP.wants {w w0 wr w10 : World} {F : Nat → List PairV} {lv wv : Value} {k B9 : Nat} {X Y : Nat → Option Addr} {C D : Nat → Nat} {col : Nat → Nat} {x y : Option Addr} {ps qs : List PairV} (h : PLP w0 wr F lv wv k X C Y D col) (hb0 : w.heap.size ≤ w0.heap.size) (hx : PrsAt w x ps) (hb : wr.heap.size ≤ B9) (hd : PrsAt w10 y qs)
    (hor : (y = x ∧ qs = ps) ∨ ∀ b off, y = some ⟨b, off, none⟩ → B9 ≤ b) : PrsX w10 y qs lv wv := by
  rcases hor with ⟨rfl, rfl⟩ | hf
  · intro k hk
    obtain ⟨b, off, e, hl, c⟩ := hd k hk
    obtain ⟨b', off', e', hl', _⟩ := hx k hk
    have hbb : b = b' := by
      have := e.symm.trans e'
      injection this with this
      injection this
    refine ⟨b, off, e, hl, ⟨fun q => ?_, fun q => ?_⟩, c⟩
    · have := (h.lrow.lt b q).1
      omega
    · have := (h.wrow.lt b q).1
      omega
  · refine PrsX.of_prs hd fun b off e => ⟨fun q => ?_, fun q => ?_⟩
    · have h1 := hf b off e
      have h2 := row_size h.lrow b q
      omega
    · have h1 := hf b off e
      have h2 := row_size h.wrow b q
      omega
theorem apply_lenA {ps : List PairV} {s : StepV} : (applyP ps s).1.length ≤ 500 := by
  by_cases h : (applyP ps s).2 = 0
  · exact (pairsB_iff.1 (apply_out h)).1
  · rw [apply_err h]; simp
/-- What Apply answers, as a slice. -/
def ApO (r : List PairV × Int) (W : World) (e : Ending) (w' : World) : Prop := ∃ y m d, e = .returned (.tuple #[.slice y m d, .int .i64 r.2]) ∧ OwnP W w' (.slice y m d) r.1 ∧ r.1.length = m
theorem papply_o (ps : List PairV) (x : Option Addr) (n c : Nat) (s : StepV) (w : World) (h : PrsAt w x ps) (hn : ps.length = n) (hc : n ≤ c) (hl : n ≤ 2147483647) (hok : PrsOk ps) (hs : StepOk s) (hT : StdS w) :
    Calls Tryz.prog 23 #[.slice x n c, sV s] w (ApO (applyP ps s) w) := by
  refine (papply_any ps x n c s w h hn hc hl hok hs hT).mono ?_
  rintro e w' ⟨v, rfl, ho⟩
  obtain ⟨y, d, rfl, h1, h2⟩ := ho.some_
  exact ⟨y, _, d, rfl, ho, rfl⟩
def DoO (x : Option Addr) (ps : List PairV) (r : List PairV × Int) (W : World) (e : Ending) (w' : World) : Prop := ∃ y m d, e = .returned (.tuple #[.slice y m d, .int .i64 r.2]) ∧ PrsAt w' y r.1 ∧ r.1.length = m ∧ Below W.heap.size W w' ∧ ((y = x ∧ r.1 = ps) ∨ ∀ b off, y = some ⟨b, off, none⟩ → W.heap.size ≤ b)
theorem sapply_o (ps : List PairV) (x : Option Addr) (n c : Nat) (s : StepV) (w : World) (h : PrsAt w x ps) (hn : ps.length = n) (hc : n ≤ c) (hl : n ≤ 2147483647) (hok : PrsOk ps) (hs : StepOk s) :
    Calls Tryz.prog 25 #[.slice x n c, sV s] w (DoO x ps (applyP ps s) w) := by
  refine (sapply_any ps x n c s w h hn hc hl hok hs).mono ?_
  rintro e w' ⟨y, d, rfl, h1, h2, h3, h4⟩
  exact ⟨y, _, d, rfl, h1, rfl, h3, h4⟩
set_option maxHeartbeats 6400000 in
set_option maxRecDepth 100000 in
theorem stepApplies_any (ps : List PairV) (x : Option Addr) (n c : Nat) (s o : StepV) (w : World) (h : PrsAt w x ps) (hn : ps.length = n) (hc : n ≤ c) (hl : n ≤ maxLen) (hz : ∀ p ∈ ps, p.table.size ≤ maxLen ∧ p.key.size ≤ maxLen ∧ p.value.size ≤ maxLen) (hs : StepOk s) (ho : StepOk o) (hT : StdS w) :
    Calls Tryz.prog 6 #[.slice x n c, sV s, sV o] w fun e w' => e = .returned (.bool true) ∧ Below w.heap.size w w' := by
  have HX := Lib.hid h
  have HN := Lib.hid hn
  have HC := Lib.hid hc
  have HAS := Lib.hid (fun k => ask_ok hs ho k)
  have HT := Lib.hid (fun W hb => hT.below (w' := W) hb)
  have HPW : Hid (∀ W, Below w.heap.size w W → Calls Tryz.prog 20 #[.slice x n c] W fun e w' => ∃ N : Nat, e = .returned (.int .i64 (N : Int)) ∧ N ≤ 4294967294 ∧ (N ≤ 2147483647 → n ≤ 2147483647 ∧ PrsOk ps) ∧ Below W.heap.size W w') := Lib.hid fun W hb => pweigh_any ps x n c W (h.below hb) hn hl hz
  have HSW := Lib.hid (fun W => sweigh_any s W hs)
  have HOW := Lib.hid (fun W => sweigh_any o W ho)
  have HAW : Hid (∀ W, Below w.heap.size w W → Calls Tryz.prog 10 #[] W fun e w' => e = .returned (.bool true) ∧ Below W.heap.size W w') := Lib.hid fun W hb => lawake_any W (hT.below hb)
  obtain ⟨w1, hw1⟩ : ∃ w1, w.alloc (Obj.cells #[.int .i64 s.kind, .string s.table, .string s.key, .string s.to, .string s.text] 35) = w1 := ⟨_, rfl⟩
  obtain ⟨w2, hw2⟩ : ∃ w2, w1.alloc (Obj.cells #[.int .i64 o.kind, .string o.table, .string o.key, .string o.to, .string o.text] 35) = w2 := ⟨_, rfl⟩
  obtain ⟨S, hS⟩ : ∃ S, w.heap.size = S := ⟨_, rfl⟩
  have hR : w1.heap.size = S + 1 := by rw [← hw1, ← hS]; simp
  have HB12 : Hid (Below w1.heap.size w1 w2) := Lib.hid (by rw [← hw2]; exact below_one _ _)
  have HB1 : Hid (Below w.heap.size w w2) := Lib.hid (by
    have h1 : Below w.heap.size w w1 := by rw [← hw1]; exact below_one _ _
    exact h1.trans (HB12.out.mono h1.size))
  have HBX : Hid (∀ W, Below w2.heap.size w2 W → (W.cell? ⟨S, 0, none⟩ = some (.int .i64 s.kind) ∧ W.cell? ⟨S, 1, none⟩ = some (.string s.table) ∧ W.cell? ⟨S, 2, none⟩ = some (.string s.key) ∧ W.cell? ⟨S, 3, none⟩ = some (.string s.to) ∧ W.cell? ⟨S, 4, none⟩ = some (.string s.text)) ∧ (W.cell? ⟨S + 1, 0, none⟩ = some (.int .i64 o.kind) ∧ W.cell? ⟨S + 1, 1, none⟩ = some (.string o.table) ∧ W.cell? ⟨S + 1, 2, none⟩ = some (.string o.key) ∧ W.cell? ⟨S + 1, 3, none⟩ = some (.string o.to) ∧ W.cell? ⟨S + 1, 4, none⟩ = some (.string o.text))) := Lib.hid fun W hb => by
    have hb1 : Below w1.heap.size w1 W := HB12.out.trans (hb.mono HB12.out.size)
    rw [← hR]
    rw [← hw1] at hb1
    rw [← hw2] at hb
    rw [← hS]
    exact ⟨box5_cells hb1, box5_cells hb⟩
  have HW1 := Lib.hid hw1
  have HW2 := Lib.hid hw2
  have HS1 := Lib.hid hS
  have HR1 := Lib.hid hR
  clear h hn hc hl hz hs ho hT hw1 hw2 hS hR
  obtain ⟨kd, tb, ky, tt, tx⟩ := s
  obtain ⟨kd2, tb2, ky2, tt2, tx2⟩ := o
  unfold sV at HSW HOW ⊢
  dsimp only at HSW HOW HBX HW1 HW2 ⊢
  obtain ⟨⟨b0, b1, b2, b3, b4⟩, d0, d1, d2, d3, d4⟩ := HBX.out w2 (Below.refl _ _)
  go_enter Tryz.func6, Tryz.ntmps6
  go_wp2
  rw [HW1.out, HW2.out, HS1.out]
  try rw [HR1.out]
  clear HW1 HW2 HR1
  go_region_held3 (fun W => (W.cell? ⟨S, 0, none⟩ = some (.int .i64 kd) ∧ W.cell? ⟨S, 1, none⟩ = some (.string tb) ∧ W.cell? ⟨S, 2, none⟩ = some (.string ky) ∧ W.cell? ⟨S, 3, none⟩ = some (.string tt) ∧ W.cell? ⟨S, 4, none⟩ = some (.string tx)) ∧ (W.cell? ⟨S + 1, 0, none⟩ = some (.int .i64 kd2) ∧ W.cell? ⟨S + 1, 1, none⟩ = some (.string tb2) ∧ W.cell? ⟨S + 1, 2, none⟩ = some (.string ky2) ∧ W.cell? ⟨S + 1, 3, none⟩ = some (.string tt2) ∧ W.cell? ⟨S + 1, 4, none⟩ = some (.string tx2))) (first | exact ⟨⟨b0, b1, b2, b3, b4⟩, d0, d1, d2, d3, d4⟩ | exact HBX.out _ HB2.out | exact HBX.out _ HB3.out | exact HBX.out _ HB4.out)
    (first
      | (go_at_call 20; (with_reducible refine (HPW.out _ HB1.out.drew).mono ?_); rintro e w3 ⟨N1, rfl, hN1, hok, hb⟩; have HB2 := Lib.hid ((Below.refl _ w2).drew.trans (hb.mono (Nat.le_refl _))); have HOK := Lib.hid hok; clear hok hb)
      | (go_at_call 21; (with_reducible refine (HSW.out _).mono ?_); rintro e w4 ⟨N2, rfl, hN2, _, hb⟩; have HB3 := Lib.hid (HB2.out.trans (hb.mono HB2.out.size)); clear hb)
      | (go_at_call 21; (with_reducible refine (HOW.out _).mono ?_); rintro e w5 ⟨N3, rfl, hN3, _, hb⟩; have HB4 := Lib.hid (HB3.out.trans (hb.mono HB3.out.size)); clear hb)
      | (go_at_call 16; (with_reducible refine (addU_any N2 N3 _ (by omega) (by omega)).mono ?_); rintro e w' ⟨rfl, rfl⟩; have hN23 := addU_le N2 N3)
      | (go_at_call 16; (with_reducible refine (addU_any N1 (addU N2 N3) _ (by omega) (by omega)).mono ?_); rintro e w' ⟨rfl, rfl⟩))
  all_goals
    have HBa : Hid (Below w2.heap.size w2 w5) := Lib.hid HB4.out
    clear HB4 HB3 HB2 b0 b1 b2 b3 b4 d0 d1 d2 d3 d4
    by_cases hbig : 2147483647 < addU N1 (addU N2 N3)
    · have g0 : (2147483647 : Int) < (addU N1 (addU N2 N3) : Nat) := by omega
      rw [decide_eq_true g0]
      have HE := Lib.hid (HB1.out.trans (HBa.out.mono HB1.out.size))
      go_wp2
      go_ret
      exact ⟨rfl, HE.out⟩
    have g0 : ¬ (2147483647 : Int) < (addU N1 (addU N2 N3) : Nat) := by omega
    rw [decide_eq_false g0]
    obtain ⟨ha1, ha2⟩ := addU_in (by omega : addU N1 (addU N2 N3) ≤ 2147483647)
    obtain ⟨hn31, hok⟩ := HOK.out ha1
    have HPO := Lib.hid hok
    generalize addU N1 (addU N2 N3) = NN at g0 hbig ⊢
    clear HOK hok ha1 ha2 hbig HPW HSW HOW hN23
    go_wp2_with fail
    refine (HAW.out _ (HB1.out.trans (HBa.out.mono HB1.out.size))).mono ?_
    rintro e w6 ⟨rfl, hb⟩
    have HB6 : Hid (Below w2.heap.size w2 w6) := Lib.hid (HBa.out.trans (hb.mono HBa.out.size))
    obtain ⟨⟨b0, b1, b2, b3, b4⟩, d0, d1, d2, d3, d4⟩ := HBX.out w6 HB6.out
    have HBw : Hid (Below w.heap.size w w6) := Lib.hid (HB1.out.trans (HB6.out.mono HB1.out.size))
    clear hb HBa HB6 HBX HB1 HB12 HAW g0
    obtain ⟨w7, hw7⟩ : ∃ w7, w6.alloc (Obj.cells #[.int .i64 kd, .string tb, .string ky, .string tt, .string tx, .int .i64 kd, .string tb, .string ky, .string tt, .string tx, .int .i64 kd2, .string tb2, .string ky2, .string tt2, .string tx2, .int .i64 kd, .string tb, .string ky, .string tt, .string tx] 35) = w7 := ⟨_, rfl⟩
    obtain ⟨G, hG⟩ : ∃ G, w6.heap.size = G := ⟨_, rfl⟩
    have HAK : Hid (∀ k, k < 4 → ∀ W, Below w7.heap.size w7 W → W.cell? ⟨G, k * 5, none⟩ = some (.int .i64 (askS ⟨kd, tb, ky, tt, tx⟩ ⟨kd2, tb2, ky2, tt2, tx2⟩ k).kind) ∧ W.cell? ⟨G, k * 5 + 1, none⟩ = some (.string (askS ⟨kd, tb, ky, tt, tx⟩ ⟨kd2, tb2, ky2, tt2, tx2⟩ k).table) ∧ W.cell? ⟨G, k * 5 + 2, none⟩ = some (.string (askS ⟨kd, tb, ky, tt, tx⟩ ⟨kd2, tb2, ky2, tt2, tx2⟩ k).key) ∧ W.cell? ⟨G, k * 5 + 3, none⟩ = some (.string (askS ⟨kd, tb, ky, tt, tx⟩ ⟨kd2, tb2, ky2, tt2, tx2⟩ k).to) ∧ W.cell? ⟨G, k * 5 + 4, none⟩ = some (.string (askS ⟨kd, tb, ky, tt, tx⟩ ⟨kd2, tb2, ky2, tt2, tx2⟩ k).text)) := Lib.hid (by
      rw [← hw7, ← hG]
      exact fun k hk W hb => ask_cells w6 _ ⟨kd, tb, ky, tt, tx⟩ ⟨kd2, tb2, ky2, tt2, tx2⟩ k hk W hb)
    have HB7 : Hid (Below w.heap.size w w7) := Lib.hid (HBw.out.trans (by rw [← hw7]; exact (below_one w6 _).mono HBw.out.size))
    have HAP : Hid (∀ k W (y : Option Addr) (m : Nat), Below w.heap.size w W → PrsAt W y ps → n ≤ m → Calls Tryz.prog 23 #[.slice y n m, .agg #[.int .i64 (askS ⟨kd, tb, ky, tt, tx⟩ ⟨kd2, tb2, ky2, tt2, tx2⟩ k).kind, .string (askS ⟨kd, tb, ky, tt, tx⟩ ⟨kd2, tb2, ky2, tt2, tx2⟩ k).table, .string (askS ⟨kd, tb, ky, tt, tx⟩ ⟨kd2, tb2, ky2, tt2, tx2⟩ k).key, .string (askS ⟨kd, tb, ky, tt, tx⟩ ⟨kd2, tb2, ky2, tt2, tx2⟩ k).to, .string (askS ⟨kd, tb, ky, tt, tx⟩ ⟨kd2, tb2, ky2, tt2, tx2⟩ k).text]] W (ApO (applyP ps (askS ⟨kd, tb, ky, tt, tx⟩ ⟨kd2, tb2, ky2, tt2, tx2⟩ k)) W)) := Lib.hid fun k W y m hb hy hm => papply_o ps y n m _ W hy HN.out hm hn31 HPO.out (HAS.out k) (HT.out W hb)
    have HRA : Hid (∀ k W, Below w.heap.size w W → Calls Tryz.prog 25 #[.slice x n c, .agg #[.int .i64 (askS ⟨kd, tb, ky, tt, tx⟩ ⟨kd2, tb2, ky2, tt2, tx2⟩ k).kind, .string (askS ⟨kd, tb, ky, tt, tx⟩ ⟨kd2, tb2, ky2, tt2, tx2⟩ k).table, .string (askS ⟨kd, tb, ky, tt, tx⟩ ⟨kd2, tb2, ky2, tt2, tx2⟩ k).key, .string (askS ⟨kd, tb, ky, tt, tx⟩ ⟨kd2, tb2, ky2, tt2, tx2⟩ k).to, .string (askS ⟨kd, tb, ky, tt, tx⟩ ⟨kd2, tb2, ky2, tt2, tx2⟩ k).text]] W (DoO x ps (applyP ps (askS ⟨kd, tb, ky, tt, tx⟩ ⟨kd2, tb2, ky2, tt2, tx2⟩ k)) W)) := Lib.hid fun k W hb => sapply_o ps x n c _ W (HX.out.below hb) HN.out HC.out hn31 HPO.out (HAS.out k)
    generalize askS ⟨kd, tb, ky, tt, tx⟩ ⟨kd2, tb2, ky2, tt2, tx2⟩ = Q at HAK HAP HRA
    obtain ⟨F, hF⟩ : ∃ F : Nat → List PairV, (fun k => (applyP ps (Q k)).1) = F := ⟨_, rfl⟩
    have HFF := Lib.hid hF
    have H0 : Hid (∃ X C Y D col, PLP w7 w7 F (.slice none 0 0) (.slice none 0 0) 0 X C Y D col) := Lib.hid ⟨fun _ => none, fun _ => 0, fun _ => none, fun _ => 0, fun _ => 0, PLP.start w7 F _ _ _ _ _⟩
    clear hF HAS HT HBw
    go_wp2
    try rw [hw7]
    try rw [hG]
    clear hw7 hG b0 b1 b2 b3 b4 d0 d1 d2 d3 d4
    go_loopw [9, 10, 11] (fun lu wu i wr => ∃ (k : Nat) (lv wv : Value), lv = lu ∧ wv = wu ∧ i = .int .i64 k ∧ k ≤ 4 ∧ Hid (∃ X C Y D col, PLP w7 wr F lv wv k X C Y D col)) (fun _ _ i _ => 4 - (intOf i).toNat)
    case atStart => exact ⟨0, _, _, rfl, rfl, rfl, by omega, H0⟩
    case round =>
      clear H0
      obtain ⟨k, lv, wv, rfl, rfl, rfl, hk, HKK⟩ := hrel
      obtain ⟨X, C, Y, D, col, hpl⟩ := HKK.out
      have HP := Lib.hid hpl
      clear hpl HKK
      by_cases hlt : k < 4
      · have HB8 : Hid (Below w.heap.size w wr) := Lib.hid (HB7.out.trans (HP.out.below.mono HB7.out.size))
        have HAKk := Lib.hid (HAK.out k hlt)
        have HAPk := Lib.hid (HAP.out k)
        have HRAk := Lib.hid (HRA.out k)
        have HFK : F k = (applyP ps (Q k)).1 := by rw [← HFF.out]
        have HBd : Hid ((applyP ps (Q k)).1.length ≤ 500) := Lib.hid apply_lenA
        generalize Q k = q at HAKk HAPk HRAk HFK HBd
        obtain ⟨ek, et, ey, eo, ex⟩ := q
        dsimp only at HAKk HAPk HRAk HFK
        generalize applyP ps ⟨ek, et, ey, eo, ex⟩ = R at HAPk HRAk HFK HBd
        obtain ⟨FL, FE⟩ := R
        dsimp only at HFK HBd
        subst HFK
        have q1 : (0 : Int) ≤ k := by omega
        have q2 : (k : Int) < 4 := by omega
        have q3 : (0 : Int) ≤ n := by omega
        have HLE := Lib.hid (plent_any ps x n c wr (HX.out.below HB8.out) HN.out hn31)
        go_wp2_with fail
        refine HLE.out.mono ?_
        rintro e w8 ⟨g, rfl, hg8, hrow, hb⟩
        have HB9 := Lib.hid hb
        have HG8 := Lib.hid hg8
        have HR8 := Lib.hid hrow
        obtain ⟨a0, a1, a2, a3, a4⟩ := HAKk.out w8 (HP.out.below.trans (hb.mono HP.out.below.size))
        have hsl : ∀ W : World, (Instr.slice 37 (.slice (some ⟨g, 0, none⟩) (n + 3) (n + 3)) none (some (.int .i64 (n : Int))) none).run Tryz.prog W = .ok (.slice (some ⟨g, 0, none⟩) n (n + 3)) W := fun W => pslice_to g 0 (n + 3) (n + 3) n (by omega) W
        have HCP : Hid (Calls Tryz.prog 23 #[.slice (some ⟨g, 0, none⟩) n (n + 3), .agg #[.int .i64 ek, .string et, .string ey, .string eo, .string ex]] w8.drew (ApO (F k, FE) w8.drew)) := Lib.hid (HAPk.out w8.drew (some ⟨g, 0, none⟩) (n + 3) (HB8.out.trans (hb.mono HB8.out.size)).drew (by have := (hrow.below (Below.refl _ w8).drew).prs; unfold lentP at this; exact this.left) (by omega))
        clear hb hg8 hrow HLE HAPk
        go_wp2
        go_region_held3 (fun W => (W.cell? ⟨G, k * 5, none⟩ = some (.int .i64 ek) ∧ W.cell? ⟨G, k * 5 + 1, none⟩ = some (.string et) ∧ W.cell? ⟨G, k * 5 + 2, none⟩ = some (.string ey) ∧ W.cell? ⟨G, k * 5 + 3, none⟩ = some (.string eo) ∧ W.cell? ⟨G, k * 5 + 4, none⟩ = some (.string ex)) ∧ (Instr.slice 37 (.slice (some ⟨g, 0, none⟩) (n + 3) (n + 3)) none (some (.int .i64 (n : Int))) none).run Tryz.prog W = .ok (.slice (some ⟨g, 0, none⟩) n (n + 3)) W) (first | exact ⟨⟨a0, a1, a2, a3, a4⟩, hsl _⟩ | exact ⟨HC9.out, hsl _⟩)
          (first | (go_at_call 23; (with_reducible refine HCP.out.mono ?_); rintro e w9 ⟨y9, m9, d9, rfl, ho9, hm9⟩; have hb89 : Below w8.heap.size w8 w9 := (Below.refl _ w8).drew.trans (ho9.below.mono (Nat.le_refl _)); have HO9 : Hid (OwnP w8 w9 (.slice y9 m9 d9) (F k)) := Lib.hid ⟨ho9.own, hb89⟩; have HM9 : Hid ((F k).length = m9) := Lib.hid hm9; have HB10 := Lib.hid (HB9.out.trans (hb89.mono HB9.out.size)); have HC9 := Lib.hid (HAKk.out w9 (HP.out.below.trans (HB10.out.mono HP.out.below.size))); clear ho9 hm9 hb89))
        all_goals
          have hm5 : m9 ≤ 500 := by rw [← HM9.out]; exact HBd.out
          have HCW := Lib.hid (pwhole_any ps g x n c w9 (HR8.out.below HO9.out.below) (HX.out.below (HB8.out.trans (HB10.out.mono HB8.out.size))) HN.out hn31)
          clear a0 a1 a2 a3 a4 hsl HCP HC9 HBd
          go_wp2_with fail
          refine HCW.out.mono ?_
          rintro e w10 ⟨rfl, hg10⟩
          have HB11 : Hid (Below wr.heap.size wr w10) := Lib.hid (HB10.out.grown hg10 HB10.out.size (fun q hq => by rw [← Option.some.inj hq]; exact HG8.out))
          have HO10 : Hid (w10.ownsRow wr.heap.size 51 3 (.slice y9 m9 d9) (F k).length (pFlat (F k))) := Lib.hid (by
            refine own_lessP (HO9.out.own.kept hg10 ?_) HB9.out.size
            refine .inr fun e => ?_
            have := (HO9.out.own.lt g e).1
            have := HR8.out.lt
            omega)
          obtain ⟨a0, a1, a2, a3, a4⟩ := HAKk.out w10 (HP.out.below.trans (HB11.out.mono HP.out.below.size))
          have HCR := Lib.hid (HRAk.out w10 (HB8.out.trans (HB11.out.mono HB8.out.size)))
          clear hg10 HCW HO9 HB10 HB9 HG8 HR8 HAKk HRAk
          go_wp2_with fail
          refine HCR.out.mono ?_
          rintro e w11 ⟨y11, m11, d11, rfl, hp11, hm11, hb11, hor11⟩
          have HB12 := Lib.hid (HB11.out.trans (hb11.mono HB11.out.size))
          have HO11 := Lib.hid (row_below HO10.out hb11)
          have HW11 : Hid (PrsX w11 y11 (F k) lv wv) := Lib.hid (HP.out.wants HB7.out.size HX.out HB11.out.size hp11 hor11)
          have HLR := Lib.hid (row_below HP.out.lrow HB12.out)
          have HZ11 : Hid (w7.heap.size ≤ w11.heap.size) := Lib.hid (Nat.le_trans HP.out.below.size HB12.out.size)
          have hmm : m11 = m9 := by
            have h1 : (F k).length = m11 := hm11
            have h2 := HM9.out
            omega
          clear hp11 hm11 hb11 hor11 HCR HB11 HO10
          subst hmm
          have d1 : (FE != FE) = false := by simp
          clear a0 a1 a2 a3 a4 hm5
          go_wp2_with (at_builtin; first
            | (refine appendLP4 rfl _ _ rfl HLR.out HZ11.out (by omega) rfl rfl rfl ?_; intro g8 cap8 w12 hown8 hgrow8 hlies8; have H8 := Lib.hid (And.intro hown8 (And.intro hgrow8 hlies8)); have HWR := Lib.hid (HP.out.wrow8 HB12.out hgrow8); have HZ8 : Hid (w7.heap.size ≤ w12.heap.size) := Lib.hid (Nat.le_trans HZ11.out (grown_alloc hgrow8).size); clear hown8 hgrow8 hlies8)
            | (refine appendLP4 rfl _ _ rfl HWR.out HZ8.out (by omega) rfl rfl rfl ?_; intro g9 cap9 w13 hown9 hgrow9 hlies9; have H9 := Lib.hid (And.intro hown9 (And.intro hgrow9 hlies9)); clear hown9 hgrow9 hlies9))
          go_roundw
          case rel => exact ⟨k + 1, _, _, rfl, rfl, by go_num, by omega, Lib.hid ⟨_, _, _, _, _, HP.out.push HB12.out (by rw [HM9.out]; rw [HM9.out] at HO11; exact HO11.out) HW11.out (by rw [HM9.out]; exact H8.out.1) H8.out.2.1 (lies_own (P := fun g => _ = some g ∨ _ ≤ g) H8.out.2.2) (by rw [HM9.out]; exact H9.out.1) H9.out.2.1 (lies_own (P := fun g => _ = some g ∨ _ ≤ g) H9.out.2.2)⟩⟩
          case measure => simp [intOf]; omega
      · have hk4 : (k : Int) = 4 := by omega
        rw [hk4]
        obtain rfl : k = 4 := by omega
        clear hk4
        obtain ⟨A, cl, hal, _, _⟩ := row_form HP.out.lrow (by decide)
        obtain ⟨V, cv, hav, _, _⟩ := row_form HP.out.wrow (by decide)
        subst hal hav
        have HOW := Lib.hid (powned_any 4 w7.heap.size wr A cl V cv X Y C D F col (HP.out.came fun k hk => by rw [← HFF.out]; exact Nat.le_trans apply_lenA (by decide)) (LBP.of_row HP.out.wrow) (fun k hk => (HP.out.want k hk).prs) (by decide) (by decide))
        have HBR := Lib.hid HP.out.below
        clear HP hk hlt HAK HAP HRA
        go_wp2_with fail
        refine HOW.out.mono ?_
        rintro e w9 ⟨rfl, hb⟩
        have HBE := Lib.hid (HB7.out.trans ((HBR.out.trans hb).mono HB7.out.size))
        clear hb HOW
        go_wp2
        go_ret
        exact ⟨rfl, HBE.out⟩
end Go.Proofs.YticcdighfojjjaaGreatDoor
