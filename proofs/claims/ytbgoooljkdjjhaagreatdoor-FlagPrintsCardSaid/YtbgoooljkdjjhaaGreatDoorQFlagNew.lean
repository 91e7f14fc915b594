/-
  FlagReadL, FlagReadS, FlagTaker, FlagNew.
-/
import Derived.Test.YtbgoooljkdjjhaaGreatDoorQFlagReadW
namespace Go.Proofs.YtbgoooljkdjjhaaGreatDoor
open Go.ChangeShapes Go.WideShapes Go.ChangeAt Go.RowKit

set_option maxHeartbeats 3200000 in
set_option maxRecDepth 100000 in
/-- What readLetters answers is what giveNext answers. -/
theorem readLetters_one (b : RB) (w : World) (hR : w.cell? ⟨b.R, 0, none⟩ = some (.pointer (some ⟨b.S, 0, none⟩))) (xs : List KeyV) (x : Option Addr) (c : Nat) (hS : SetAt w b.S x c xs) (hn : xs.length ≤ 1000000)
    (at_ : Int) (k : KeyV) (hf : letterK xs ⟨#[112]⟩ = some k) (hk : k.kind ≠ 1) (Q : Ending → World → Prop)
    (hq : ∀ W, Below w.heap.size w W → Calls Tryz.prog 103 #[.pointer (some ⟨b.R, 0, none⟩), kAgg k, .int .i64 at_] W fun e w' => (∃ n, e = .returned (.int .i64 n)) ∧ Q e w') :
    Calls Tryz.prog 78 #[.pointer (some ⟨b.R, 0, none⟩), .string ⟨#[112]⟩, .int .i64 at_] w Q := by
  have HFI : Hid (∀ W, Below w.heap.size w W → Calls Tryz.prog 57 #[.pointer (some ⟨b.S, 0, none⟩), .string ⟨#[112]⟩] W fun e w' => e = .returned (.tuple #[kAgg k, .bool true]) ∧ Below W.heap.size W w') := Lib.hid fun W hb => by
    refine (letter_any xs ⟨#[112]⟩ b.S x c W (hS.below hb) hn).mono ?_
    rintro e w' ⟨rfl, hb2⟩
    rw [hf]
    exact ⟨rfl, hb2⟩
  have HGV := Lib.hid hq
  have HB0 : Hid (∀ o, Below w.heap.size w (w.alloc o)) := Lib.hid (below_one w)
  clear hS hf hq
  obtain ⟨nm, kd, dl, la, lb, le⟩ := k
  simp only at hk
  unfold kAgg at HFI HGV
  simp only at HFI HGV
  have hsl1 : ∀ (W : World), (Instr.slice 9 (.string ⟨#[112]⟩) (some (.int .i64 0)) (some (.int .i64 (IntKind.i64.wrap 1))) none).run Tryz.prog W = .ok (.string ⟨#[112]⟩) W := fun W => by kernel_rfl
  have hsl2 : ∀ (W : World), (Instr.slice 9 (.string ⟨#[112]⟩) (some (.int .i64 (IntKind.i64.wrap 1))) none none).run Tryz.prog W = .ok (.string ⟨#[]⟩) W := fun W => by kernel_rfl
  go_enter Tryz.func78, Tryz.ntmps78
  go_wp2
  go_loopw [14, 7] (fun i _ wr => i = .int .i64 0 ∧ Hid (wr = w)) (fun _ _ _ => 0)
  case atStart => exact ⟨rfl, Lib.hid rfl⟩
  case round =>
    obtain ⟨rfl, HW⟩ := hrel
    have hW := HW.out
    subst hW
    go_wp2_with fail
    go_region_law fail
    go_wp2_with fail
    refine (HFI.out _ (below_drewN wr 1)).mono ?_
    rintro e w2 ⟨rfl, hb2⟩
    have HB2 : Hid (Below wr.heap.size wr w2) := Lib.hid ((below_drewN wr 1).trans (hb2.mono (below_drewN wr 1).size))
    have HX2 : Hid (∀ t0, Box6 (w2.alloc (Obj.cells #[.string nm, .int .i64 kd, .string dl, .int .i64 la, .int .i64 lb, .string le] t0)) w2.heap.size ⟨nm, kd, dl, la, lb, le⟩) := Lib.hid fun t0 => box6_new w2 ⟨nm, kd, dl, la, lb, le⟩ t0
    have HB3 : Hid (∀ o, Below wr.heap.size wr (w2.alloc o)) := Lib.hid fun o => HB2.out.trans ((below_one w2 o).mono HB2.out.size)
    clear hb2
    go_wp2_with fail
    refine (HGV.out _ (HB3.out _)).mono ?_
    rintro e w5 ⟨⟨n, rfl⟩, hq5⟩
    have HQ5 := Lib.hid hq5
    clear hq5
    go_wp2
    exact HQ5.out
end Go.Proofs.YtbgoooljkdjjhaaGreatDoor

namespace Go.Proofs.YtbgoooljkdjjhaaGreatDoor
open Go.ChangeShapes Go.WideShapes Go.ChangeAt Go.RowKit

set_option maxHeartbeats 3200000 in
set_option maxRecDepth 100000 in
theorem read_end (b : RB) (w : World) (arg : ByteArray) (at_ : Int) (hs : shapeF arg.data.toList = 0) (Q : World → Prop)
    (hq : Calls Tryz.prog 74 #[.pointer (some ⟨b.R, 0, none⟩)] w fun e w' => e = .returned (.tuple #[]) ∧ Q w') :
    Calls Tryz.prog 55 #[.pointer (some ⟨b.R, 0, none⟩), .string arg, .int .i64 at_] w fun e w' => e = .returned (.int .i64 0) ∧ Q w' := by
  have HSH : Hid (∀ W, Calls Tryz.prog 73 #[.string arg] W fun e w' => e = .returned (.int .i64 0) ∧ W = w') := Lib.hid fun W => by
    refine (shape_any arg W).mono ?_
    rw [hs]
    exact fun _ _ h => h
  have HQ := Lib.hid hq
  clear hs hq
  go_enter Tryz.func55, Tryz.ntmps55
  go_wp2_with fail
  refine (HSH.out _).mono ?_
  rintro e w1 ⟨rfl, rfl⟩
  go_wp2_with fail
  refine HQ.out.mono ?_
  rintro e w2 ⟨rfl, hq2⟩
  have HQ2 := Lib.hid hq2
  clear hq2
  go_wp2
  go_ret
  exact ⟨rfl, HQ2.out⟩
set_option maxHeartbeats 3200000 in
set_option maxRecDepth 100000 in
theorem read_no (b : RB) (w : World) (arg : ByteArray) (at_ : Int) (hs : shapeF arg.data.toList = 1) (Q : World → Prop)
    (hq : Calls Tryz.prog 75 #[.pointer (some ⟨b.R, 0, none⟩), .string arg] w fun e w' => e = .returned (.tuple #[]) ∧ Q w') :
    Calls Tryz.prog 55 #[.pointer (some ⟨b.R, 0, none⟩), .string arg, .int .i64 at_] w fun e w' => e = .returned (.int .i64 0) ∧ Q w' := by
  have HSH : Hid (∀ W, Calls Tryz.prog 73 #[.string arg] W fun e w' => e = .returned (.int .i64 1) ∧ W = w') := Lib.hid fun W => by
    refine (shape_any arg W).mono ?_
    rw [hs]
    exact fun _ _ h => h
  have HQ := Lib.hid hq
  clear hs hq
  go_enter Tryz.func55, Tryz.ntmps55
  go_wp2_with fail
  refine (HSH.out _).mono ?_
  rintro e w1 ⟨rfl, rfl⟩
  go_wp2_with fail
  refine HQ.out.mono ?_
  rintro e w2 ⟨rfl, hq2⟩
  have HQ2 := Lib.hid hq2
  clear hq2
  go_wp2
  go_ret
  exact ⟨rfl, HQ2.out⟩
set_option maxHeartbeats 3200000 in
set_option maxRecDepth 100000 in
theorem read_word (b : RB) (w : World) (arg word : ByteArray) (at_ n : Int) (hs : shapeF arg.data.toList = 3) (ht : mkB (Lib.trimPrefix arg.data.toList [45, 45]) = word) (Q : World → Prop)
    (hq : Calls Tryz.prog 76 #[.pointer (some ⟨b.R, 0, none⟩), .string word, .int .i64 at_] w fun e w' => e = .returned (.int .i64 n) ∧ Q w') :
    Calls Tryz.prog 55 #[.pointer (some ⟨b.R, 0, none⟩), .string arg, .int .i64 at_] w fun e w' => e = .returned (.int .i64 n) ∧ Q w' := by
  have HSH : Hid (∀ W, Calls Tryz.prog 73 #[.string arg] W fun e w' => e = .returned (.int .i64 3) ∧ W = w') := Lib.hid fun W => by
    refine (shape_any arg W).mono ?_
    rw [hs]
    exact fun _ _ h => h
  have HTR : Hid (∀ W, Calls Tryz.prog 77 #[.string arg, .string ⟨#[45, 45]⟩] W fun e w' => e = .returned (.string word) ∧ W = w') := Lib.hid fun W => by
    refine (ftrimPrefix_any arg ⟨#[45, 45]⟩ W).mono ?_
    rw [show mkB (Lib.trimPrefix arg.data.toList (⟨#[45, 45]⟩ : ByteArray).data.toList) = word from ht]
    exact fun _ _ h => h
  have HQ := Lib.hid hq
  clear hs hq ht
  go_enter Tryz.func55, Tryz.ntmps55
  go_wp2_with fail
  refine (HSH.out _).mono ?_
  rintro e w1 ⟨rfl, rfl⟩
  go_wp2_with fail
  refine (HTR.out _).mono ?_
  rintro e w2 ⟨rfl, rfl⟩
  go_wp2_with fail
  refine HQ.out.mono ?_
  rintro e w3 ⟨rfl, hq2⟩
  have HQ2 := Lib.hid hq2
  clear hq2
  go_wp2
  go_ret
  exact ⟨rfl, HQ2.out⟩
set_option maxHeartbeats 3200000 in
set_option maxRecDepth 100000 in
theorem read_letters (b : RB) (w : World) (arg row : ByteArray) (at_ n : Int) (hs : shapeF arg.data.toList = 4) (ht : mkB (Lib.trimPrefix arg.data.toList [45]) = row) (Q : World → Prop)
    (hq : Calls Tryz.prog 78 #[.pointer (some ⟨b.R, 0, none⟩), .string row, .int .i64 at_] w fun e w' => e = .returned (.int .i64 n) ∧ Q w') :
    Calls Tryz.prog 55 #[.pointer (some ⟨b.R, 0, none⟩), .string arg, .int .i64 at_] w fun e w' => e = .returned (.int .i64 n) ∧ Q w' := by
  have HSH : Hid (∀ W, Calls Tryz.prog 73 #[.string arg] W fun e w' => e = .returned (.int .i64 4) ∧ W = w') := Lib.hid fun W => by
    refine (shape_any arg W).mono ?_
    rw [hs]
    exact fun _ _ h => h
  have HTR : Hid (∀ W, Calls Tryz.prog 77 #[.string arg, .string ⟨#[45]⟩] W fun e w' => e = .returned (.string row) ∧ W = w') := Lib.hid fun W => by
    refine (ftrimPrefix_any arg ⟨#[45]⟩ W).mono ?_
    rw [show mkB (Lib.trimPrefix arg.data.toList (⟨#[45]⟩ : ByteArray).data.toList) = row from ht]
    exact fun _ _ h => h
  have HQ := Lib.hid hq
  clear hs hq ht
  go_enter Tryz.func55, Tryz.ntmps55
  go_wp2_with fail
  refine (HSH.out _).mono ?_
  rintro e w1 ⟨rfl, rfl⟩
  go_wp2_with fail
  refine (HTR.out _).mono ?_
  rintro e w2 ⟨rfl, rfl⟩
  go_wp2_with fail
  refine HQ.out.mono ?_
  rintro e w3 ⟨rfl, hq2⟩
  have HQ2 := Lib.hid hq2
  clear hq2
  go_wp2
  go_ret
  exact ⟨rfl, HQ2.out⟩
theorem RdF.help {B : Nat} {b : RB} {w : World} {s : RS} (h : RdF B b w s) : RdF B b (w.setCell ⟨b.R, 4, none⟩ (.bool true)) { s with hp := true } := by
  have keep : ∀ q, q ≠ b.R → (w.setCell ⟨b.R, 4, none⟩ (.bool true)).heap[q]? = w.heap[q]? := fun q hq => Below.heap_setCell _ ⟨b.R, 4, none⟩ _ _ hq
  refine ⟨(heap_set w b.R 4 _ _ _ _ h.oR).trans (by simp), (keep _ h.RN.symm).trans h.oN, (keep _ h.RA.symm).trans h.oA, ?_, ?_, h.lR, h.lN, h.lA, fun k hk' => ?_, h.le⟩
  · exact h.og.kept (row := some b.R) ⟨rfl, rfl, rfl, by simp [World.setCell], fun q _ hne => keep q (fun e => hne (by rw [e]))⟩ (.inr h.gR)
  · exact h.orr.kept (row := some b.R) ⟨rfl, rfl, rfl, by simp [World.setCell], fun q _ hne => keep q (fun e => hne (by rw [e]))⟩ (.inr h.rR)
  · obtain ⟨g, off, e, hg, hc⟩ := h.tx k hk'
    exact ⟨g, off, e, hg, by rw [World.cell?_of_block (w := w) (a := ⟨g, off + k, none⟩) (keep g (by have := h.lR; omega))]; exact hc⟩
set_option maxHeartbeats 3200000 in
set_option maxRecDepth 100000 in
theorem read_help (B : Nat) (b : RB) (w : World) (s : RS) (h : RdF B b w s) (arg : ByteArray) (at_ : Int) (hs : shapeF arg.data.toList = 2) :
    Calls Tryz.prog 55 #[.pointer (some ⟨b.R, 0, none⟩), .string arg, .int .i64 at_] w fun e w' => e = .returned (.int .i64 0) ∧ RdF B b w' { s with hp := true } ∧ Below B w w' := by
  have HSH : Hid (∀ W, Calls Tryz.prog 73 #[.string arg] W fun e w' => e = .returned (.int .i64 2) ∧ W = w') := Lib.hid fun W => by
    refine (shape_any arg W).mono ?_
    rw [hs]
    exact fun _ _ h => h
  have HQ : Hid (RdF B b (w.setCell ⟨b.R, 4, none⟩ (.bool true)) { s with hp := true } ∧ Below B w (w.setCell ⟨b.R, 4, none⟩ (.bool true))) := Lib.hid ⟨h.help, (Below.refl _ _).setCell h.lR _⟩
  have e1 := h.cells.2.2.2.2.1
  have e2 := h.cells.2.2.2.2.2 4
  clear hs h
  go_enter Tryz.func55, Tryz.ntmps55
  go_wp2_with fail
  refine (HSH.out _).mono ?_
  rintro e w1 ⟨rfl, rfl⟩
  go_wp2
  go_ret
  exact ⟨rfl, HQ.out⟩
end Go.Proofs.YtbgoooljkdjjhaaGreatDoor

namespace Go.Proofs.YtbgoooljkdjjhaaGreatDoor
open Go.ChangeShapes Go.WideShapes Go.ChangeAt Go.RowKit

set_option maxHeartbeats 1600000 in
set_option maxRecDepth 100000 in
theorem taker_any (x : Option Addr) (n c : Nat) (w : World) :
    Calls Tryz.prog 54 #[.slice x n c] w fun e w' =>
      e = .returned (.func (.func 72) #[] #[.pointer (some ⟨w.heap.size + 1, 0, none⟩), .pointer (some ⟨w.heap.size, 0, none⟩)]) ∧
      w' = (w.alloc (Obj.cells #[.slice x n c] 33)).alloc (Obj.cells #[.int .i64 0] 3) := by
  go_enter Tryz.func54, Tryz.ntmps54
  go_wp2
  go_ret
  exact ⟨rfl, rfl⟩
set_option maxHeartbeats 1600000 in
set_option maxRecDepth 100000 in
theorem parse_nil (x : Option Addr) (n c : Nat) (w : World) :
    Calls Tryz.prog 30 #[.pointer none, .slice x n c] w fun e w' => e = .returned (.tuple #[.agg #[.slice none 0 0, .slice none 0 0, .bool false], .int .i64 1, .int .i64 0]) ∧ Below w.heap.size w w' := by
  have HB : Hid (∀ o, Below w.heap.size w (w.alloc o)) := Lib.hid (below_one w)
  go_enter Tryz.func30, Tryz.ntmps30
  go_wp2
  exact bodyPost_ret (v := .tuple #[.agg #[.slice none 0 0, .slice none 0 0, .bool false], .int .i64 1, .int .i64 0]) (by simp [results, Tryz.results30, go_sem]) rfl ⟨rfl, HB.out _⟩
end Go.Proofs.YtbgoooljkdjjhaaGreatDoor

namespace Go.Proofs.YtbgoooljkdjjhaaGreatDoor
open Go.ChangeShapes Go.WideShapes Go.ChangeAt Go.RowKit

structure Told where
  gs : List GivV
  rs : List ByteArray
  hp : Bool
def At (B : Nat) (b : RB) (w0 w : World) (k : Nat) (t : Told) : Prop := ∃ gv rv, RdF B b w ⟨k, gv, rv, t.gs, t.rs, t.hp⟩ ∧ Below B w0 w ∧ B ≤ w.heap.size
/-- One round: what reading the argument of place k does. -/
def StepOk (args : List ByteArray) (S : Nat) (x : Option Addr) (c : Nat) (T : Nat → Option Told) (E : Int → Nat → Prop) (w0 : World) : Prop :=
  ∀ (B : Nat) (b : RB) (W : World) (k : Nat) (t : Told), b.S = S → b.x = x → b.c = c → b.args = args → w0.heap.size ≤ B → T k = some t → ∀ hk : k < args.length, At B b w0 W (k + 1) t →
    Calls Tryz.prog 55 #[.pointer (some ⟨b.R, 0, none⟩), .string args[k], .int .i64 k] W fun e w' =>
      (e = .returned (.int .i64 0) ∧ ∃ k2 t2, k < k2 ∧ k2 ≤ args.length ∧ T k2 = some t2 ∧ At B b w0 w' k2 t2) ∨
      (∃ n, n ≠ 0 ∧ e = .returned (.int .i64 n) ∧ E n k ∧ Below B w0 w')
theorem rdf_new (args : List ByteArray) (S : Nat) (x : Option Addr) (c : Nat) (w w1 : World) (A N : Nat) (hA : A = w.heap.size) (hN : N = w.heap.size + 1)
    (htx : ∀ k (h : k < args.length), ∃ g off, x = some ⟨g, off, none⟩ ∧ g < w.heap.size ∧ w.cell? ⟨g, off + k, none⟩ = some (.string args[k]))
    (hw : w1 = (w.alloc (Obj.cells #[.slice x args.length c] 33)).alloc (Obj.cells #[.int .i64 0] 3)) :
    At w.heap.size ⟨w1.heap.size, A, N, S, x, c, args⟩ w (w1.alloc (Obj.cells #[.pointer (some ⟨S, 0, none⟩), .func (.func 72) #[] #[.pointer (some ⟨N, 0, none⟩), .pointer (some ⟨A, 0, none⟩)], .slice none 0 0, .slice none 0 0, .bool false] 87)) 0 ⟨[], [], false⟩ := by
  have hb : ∀ o, Below w.heap.size w (w1.alloc o) := fun o => by
    subst hw
    exact ((below_one w _).trans ((below_one _ _).mono (below_one w _).size)).trans ((below_one _ o).mono (Nat.le_trans (below_one w _).size (below_one _ _).size))
  have ha : ∀ (W : World) (o : Obj), (W.alloc o).heap = W.heap.push o := fun _ _ => rfl
  refine ⟨.slice none 0 0, .slice none 0 0, ⟨?_, ?_, ?_, ⟨rfl, .inl ⟨rfl, rfl⟩⟩, ⟨rfl, .inl ⟨rfl, rfl⟩⟩, ?_, ?_, ?_, fun k hk => ?_, Nat.zero_le _⟩, hb _, (hb _).size⟩
  · show (w1.alloc _).heap[w1.heap.size]? = _
    rw [ha, Array.getElem?_push_size]
    rfl
  · subst hw hA hN
    simp only [ha]
    simp [Array.getElem_push]
  · subst hw hA hN
    simp only [ha]
    simp [Array.getElem?_push, Array.getElem_push]
    omega
  · subst hw
    simp
    first | done | omega
  · subst hN
    exact Nat.le_succ _
  · subst hA
    exact Nat.le_refl _
  · obtain ⟨g, off, e, hg, hc⟩ := htx k hk
    exact ⟨g, off, e, hg, by rw [(hb _).cell hg]; exact hc⟩
end Go.Proofs.YtbgoooljkdjjhaaGreatDoor
