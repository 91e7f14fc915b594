/-
  The walk of the law ValueWithin.
-/
import Derived.Test.YtolibkcdfhbdiaaDoorValueAwake
import Derived.Test.YtolibkcdfhbdiaaDoorValueWeigh
import Derived.Test.YtolibkcdfhbdiaaDoorValueLent
import Derived.Test.YtolibkcdfhbdiaaDoorValueRefWithin
import Derived.Deep.AppendLies
namespace Go.Proofs.YtolibkcdfhbdiaaDoor
open Go.ChangeShapes Go.WideShapes Go.ChangeAt Go.RowKit

theorem Txts.far {w w' : World} {g : Nat} (hg : w.grownBy w' (some g)) {x : Option Addr} {xs : List ByteArray} (hx : Txts w x xs) {B : Nat} (hB : ∀ b off, 0 < xs.length → x = some ⟨b, off, none⟩ → b < B) (hgB : B ≤ g) : Txts w' x xs := fun j hj => by
  obtain ⟨b, off, e, hl, hc⟩ := hx j hj
  have hb := hB b off (by omega) e
  refine ⟨b, off, e, Nat.lt_of_lt_of_le hl hg.size, ?_⟩
  rw [hg.cell_far ⟨b, off + j, none⟩ hl (fun h => by
    have : b = g := by simpa using h
    omega)]
  exact hc
theorem Txts.old {w : World} {x : Option Addr} {xs : List ByteArray} (hx : Txts w x xs) : ∀ b off, 0 < xs.length → x = some ⟨b, off, none⟩ → b < w.heap.size := fun b off hp e => by
  obtain ⟨b', off', e', hl, _⟩ := hx 0 hp
  rw [e] at e'
  have : b = b' := by injection e' with e'; injection e'
  omega
theorem Box4.far {w w' : World} {R g : Nat} {a b c d : Value} (h : Box4 w R a b c d) (hg : w.grownBy w' (some g)) (hn : R ≠ g) : Box4 w' R a b c d := by
  have hl := h.lt
  have e : w'.heap[R]? = w.heap[R]? := hg.block R hl (by simpa using hn)
  obtain ⟨h0, h1, h2, h3, z0, z1, z2, z3⟩ := h
  exact ⟨by rw [World.cell?_of_block (w := w) (a := ⟨R, 0, none⟩) e]; exact h0, by rw [World.cell?_of_block (w := w) (a := ⟨R, 1, none⟩) e]; exact h1, by rw [World.cell?_of_block (w := w) (a := ⟨R, 2, none⟩) e]; exact h2, by rw [World.cell?_of_block (w := w) (a := ⟨R, 3, none⟩) e]; exact h3,
    by rw [World.frozen?_of_block (w := w) (a := ⟨R, 0, none⟩) e]; exact z0, by rw [World.frozen?_of_block (w := w) (a := ⟨R, 1, none⟩) e]; exact z1, by rw [World.frozen?_of_block (w := w) (a := ⟨R, 2, none⟩) e]; exact z2, by rw [World.frozen?_of_block (w := w) (a := ⟨R, 3, none⟩) e]; exact z3⟩
theorem grownBy_below {w0 w w' : World} {g : Nat} (hb : Below w0.heap.size w0 w) (hg : w.grownBy w' (some g)) (hB : w0.heap.size ≤ g) : Below w0.heap.size w0 w' :=
  hb.grown hg hb.size (fun k hk => by
    have : g = k := by simpa using hk
    omega)

/-- A value that came in, in its block, and what it is. -/
structure WV (w0 w : World) (R : Nat) (v : Val) (x : Option Addr) (c : Nat) : Prop where
  below : Below w0.heap.size w0 w
  box : Box4 w R (.int .i64 v.kind) (.int .i64 v.int) (.string v.text) (.slice x v.words.length c)
theorem WV.below' {w0 w w' : World} {R : Nat} {v : Val} {x : Option Addr} {c : Nat} (h : WV w0 w R v x c) (hb : Below w.heap.size w w') : WV w0 w' R v x c :=
  ⟨h.below.trans (hb.mono h.below.size), h.box.below hb⟩

set_option maxHeartbeats 3200000 in
set_option maxRecDepth 100000 in
theorem withins_any (w : World) (v : Val) (x : Option Addr) (c : Nat) (a b : Int) (hS : Std w) (h : RawOk w v x c) :
    Calls Tryd.prog 6 #[argV v x c, .int .i64 a, .int .i64 b] w fun e w' => e = .returned (.bool true) ∧ Below w.heap.size w w' := by
  have HS := Lib.hid hS
  have H := Lib.hid h
  have HV0 : Hid (∀ p, WV w (w.alloc (.cells #[.int .i64 v.kind, .int .i64 v.int, .string v.text, .slice x v.words.length c] p)) w.heap.size v x c) := Lib.hid fun p => ⟨(Below.refl _ _).alloc (Nat.le_refl _) _, box4_new w _ _ _ _ p⟩
  have HWC : Hid (∀ p, Calls Tryd.prog 16 #[.agg #[.int .i64 v.kind, .int .i64 v.int, .string v.text, .slice x v.words.length c]] (w.alloc (.cells #[.int .i64 v.kind, .int .i64 v.int, .string v.text, .slice x v.words.length c] p)) fun e w' => ∃ r, e = .returned (.int .i64 r) ∧ (0 ≤ r ∧ r ≤ 4294967294) ∧ (r ≤ 2147483647 → v.words.length ≤ 2147483647) ∧ Below (w.alloc (.cells #[.int .i64 v.kind, .int .i64 v.int, .string v.text, .slice x v.words.length c] p)).heap.size (w.alloc (.cells #[.int .i64 v.kind, .int .i64 v.int, .string v.text, .slice x v.words.length c] p)) w') := Lib.hid fun p => weighs_any _ v x c (h.below (HV0.out p).below)
  have HLC : Hid (∀ w1, Below w.heap.size w w1 → v.words.length ≤ 2147483647 → Calls Tryd.prog 17 #[.agg #[.int .i64 v.kind, .int .i64 v.int, .string v.text, .slice x v.words.length c]] w1 fun e w' => ∃ g, e = .returned (.agg #[.int .i64 v.kind, .int .i64 v.int, .string v.text, .slice (some ⟨g, 0, none⟩) v.words.length (v.words.length + 2)]) ∧ w1.heap.size ≤ g ∧ LentAt w' g v.words ∧ Below w1.heap.size w1 w') := Lib.hid fun w1 hb hl => lent_any w1 v x c ((h.ok hl).below hb) hl
  have HIC : Hid (∀ w1 g, Below w.heap.size w w1 → v.words.length ≤ 2147483647 → LentAt w1 g v.words → Calls Tryd.prog 24 #[.agg #[.int .i64 v.kind, .int .i64 v.int, .string v.text, .slice (some ⟨g, 0, none⟩) v.words.length (v.words.length + 2)], .int .i64 a, .int .i64 b] w1 fun e w' => e = .returned (.bool (withinV v a b)) ∧ Below w1.heap.size w1 w') := Lib.hid fun w1 g hb hl hL =>
    within_any w1 v a b (some ⟨g, 0, none⟩) (v.words.length + 2) ⟨hL.txts, by omega, by omega, h.sizes, h.text⟩ (hS.below hb).tab
  have HOC : Hid (∀ w1 g, Below w.heap.size w w1 → v.words.length ≤ 2147483647 → LentAt w1 g v.words → Calls Tryd.prog 21 #[.agg #[.int .i64 v.kind, .int .i64 v.int, .string v.text, .slice (some ⟨g, 0, none⟩) v.words.length (v.words.length + 2)], .agg #[.int .i64 v.kind, .int .i64 v.int, .string v.text, .slice x v.words.length c]] w1 fun e w' => e = .returned (.bool true) ∧ w1.grownBy w' (some g)) := Lib.hid fun w1 g hb hl hL =>
    whole_any w1 v g x c hL ((h.ok hl).below hb) hl
  have HRC : Hid (∀ w1 w2 g, Below w.heap.size w w1 → v.words.length ≤ 2147483647 → w1.grownBy w2 (some g) → w.heap.size ≤ g → Calls Tryd.prog 25 #[.agg #[.int .i64 v.kind, .int .i64 v.int, .string v.text, .slice x v.words.length c], .int .i64 a, .int .i64 b] w2 fun e w' => e = .returned (.bool (withinV v a b)) ∧ Below w2.heap.size w2 w') := Lib.hid fun w1 w2 g hb hl hg hB =>
    refWithin_any w2 v x c a b ⟨(h.list.below hb).far hg h.list.old hB, h.room, by omega, h.sizes, h.text⟩ hl
  clear hS h
  obtain ⟨T, hT⟩ : ∃ T, withinV v a b = T := ⟨_, rfl⟩
  rw [hT] at HIC HRC
  clear hT
  unfold argV
  obtain ⟨k, n, t, xs⟩ := v
  simp only at HV0 HWC HLC HIC HOC HRC ⊢
  go_enter Tryd.func6, Tryd.ntmps6
  go_wp2_with fail
  refine (HWC.out _).mono ?_
  rintro e w1 ⟨r, rfl, hr, hl, hb1⟩
  have HV1 := Lib.hid ((HV0.out 29).below' hb1)
  clear hb1
  by_cases hbig : 2147483647 < r
  · clear hl
    go_wp2
    go_ret
    exact ⟨rfl, HV1.out.below⟩
  have HL := Lib.hid (hl (by omega))
  clear hl
  go_wp2_with fail
  refine (awake_any _ (HS.out.below HV1.out.below)).mono ?_
  rintro e w2 ⟨rfl, hb2⟩
  have HV2 := Lib.hid (HV1.out.below' hb2)
  clear hb2 HV1
  obtain ⟨R, hR⟩ : ∃ R, w.heap.size = R := ⟨_, rfl⟩
  have HRR := Lib.hid hR
  rw [hR] at HV2 ⊢
  clear hR
  obtain ⟨c0, c1, c2, c3, z0, z1, z2, z3⟩ := HV2.out.box
  simp only at c0 c1 c2 c3
  go_wp2_with fail
  refine (HLC.out _ HV2.out.below HL.out).mono ?_
  rintro e w3 ⟨g, rfl, hg, hL, hb3⟩
  have HV3 := Lib.hid (HV2.out.below' hb3)
  have HLT3 := Lib.hid hL
  have HGG := Lib.hid (Nat.le_trans HV2.out.below.size hg)
  have HRG : Hid (R ≠ g) := Lib.hid (by have := HV2.out.box.lt; omega)
  clear hg hL hb3 HV2 c0 c1 c2 c3 z0 z1 z2 z3
  have HA : Hid (∀ p, WV w (w3.alloc (.cells #[.int .i64 k, .int .i64 n, .string t, .slice (some ⟨g, 0, none⟩) xs.length (xs.length + 2)] p)) R ⟨k, n, t, xs⟩ x c ∧ Box4 (w3.alloc (.cells #[.int .i64 k, .int .i64 n, .string t, .slice (some ⟨g, 0, none⟩) xs.length (xs.length + 2)] p)) w3.heap.size (.int .i64 k) (.int .i64 n) (.string t) (.slice (some ⟨g, 0, none⟩) xs.length (xs.length + 2)) ∧ LentAt (w3.alloc (.cells #[.int .i64 k, .int .i64 n, .string t, .slice (some ⟨g, 0, none⟩) xs.length (xs.length + 2)] p)) g xs) := Lib.hid fun p => ⟨HV3.out.below' (below_one _ _), box4_new w3 _ _ _ _ p, HLT3.out.below (below_one _ _)⟩
  go_wp2_with fail
  refine (HIC.out _ g (HA.out _).1.below HL.out (HA.out _).2.2).mono ?_
  rintro e w4 ⟨rfl, hb4⟩
  have HV4 := Lib.hid ((HA.out 29).1.below' hb4)
  have HL4 := Lib.hid ((HA.out 29).2.2.below hb4)
  obtain ⟨c0, c1, c2, c3, _, _, _, _⟩ := HV4.out.box
  obtain ⟨e0, e1, e2, e3, _, _, _, _⟩ := (HA.out 29).2.1.below hb4
  simp only at c0 c1 c2 c3
  clear hb4 HA HLT3 HV3
  go_wp2_with fail
  refine (HOC.out _ g HV4.out.below HL.out HL4.out).mono ?_
  rintro e w5 ⟨rfl, hg5⟩
  have HB5 := Lib.hid (grownBy_below HV4.out.below hg5 HGG.out)
  have HCC := Lib.hid (HRC.out w4 w5 g HV4.out.below HL.out hg5 HGG.out)
  obtain ⟨a0, a1, a2, a3, _, _, _, _⟩ := HV4.out.box.far hg5 HRG.out
  simp only at a0 a1 a2 a3
  clear hg5 c0 c1 c2 c3 e0 e1 e2 e3 HL4
  go_wp2_with fail
  refine HCC.out.mono ?_
  rintro e w6 ⟨rfl, hb6⟩
  have HB6 := Lib.hid (HB5.out.trans (hb6.mono HB5.out.size))
  clear hb6
  go_wp2
  go_ret
  exact ⟨ret_bool (by simp), HB6.out⟩
end Go.Proofs.YtolibkcdfhbdiaaDoor
