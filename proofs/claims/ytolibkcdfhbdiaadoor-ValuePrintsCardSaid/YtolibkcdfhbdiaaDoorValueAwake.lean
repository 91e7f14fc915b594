/-
  The walk of the law's 'awake': some of the chapter's examples.
-/
import Derived.Test.YtolibkcdfhbdiaaDoorValuePrint
import Derived.Test.YtolibkcdfhbdiaaDoorValueSame
namespace Go.Proofs.YtolibkcdfhbdiaaDoor
open Go.ChangeShapes Go.WideShapes Go.ChangeAt Go.RowKit

def tLog : ByteArray := ⟨#[108, 111, 103]⟩
def tNet : ByteArray := ⟨#[110, 101, 116]⟩
def vA : Val := ⟨3, 2097152, ⟨#[]⟩, []⟩
def vB : Val := ⟨6, 0, ⟨#[]⟩, [tLog, tNet]⟩
theorem exA : parseV 3 ⟨#[50, 48, 52, 56, 107]⟩ = (vA, 0) := by kernel_rfl
theorem exB : parseV 6 ⟨#[108, 111, 103, 44, 110, 101, 116]⟩ = (vB, 0) := by kernel_rfl
theorem exC : parseV 4 ⟨#[53]⟩ = (zeroV, 40) := by kernel_rfl
theorem exD : parseV 7 ⟨#[111, 110]⟩ = (zeroV, 1) := by kernel_rfl
theorem exE : parseV 2 ⟨#[52, 54, 49, 49, 54, 56, 54, 48, 49, 56, 52, 50, 55, 51, 56, 55, 57, 48, 53]⟩ = (zeroV, 41) := by kernel_rfl
theorem itoa2 : Lib.itoa 2 = [50] := by
  unfold Lib.itoa
  rw [if_neg (by decide), show (2 : Int).toNat = 2 from rfl, Lib.decDigits_one (by decide)]; rfl
theorem rightA : rightV vA = true := by kernel_rfl
theorem exP : printR vA = ([50, 109], 0) := by
  unfold printR
  rw [rightA, if_pos rfl]
  show (Lib.itoa (2097152 / 1048576) ++ [109], (0 : Int)) = _
  rw [show (2097152 : Int) / 1048576 = 2 by decide, itoa2]; rfl
theorem rightB : rightV vB = true := by kernel_rfl
theorem inB : withinV vB 0 2 = true := by kernel_rfl
theorem outB : withinV vB 0 1 = false := by kernel_rfl
theorem diffAB : sameV vA vB = false := by kernel_rfl

theorem OwnT.empty {B : Nat} {w : World} {x : Option Addr} {cap : Nat} (h : OwnT B w x cap []) : x = none ∧ cap = 0 := by
  rcases h with ⟨h1, _, h3⟩ | ⟨_, _, _, _, h, _⟩
  · exact ⟨h1, h3⟩
  · exact absurd h (by simp)
theorem argA (w : World) : ArgOk w vA none 0 := ⟨Txts.nil_ _ _, Nat.le_refl _, by decide, fun k h => absurd h (by simp [vA]), by decide⟩
/-- The two values of the examples, in their blocks; the list of the second. -/
structure AW (w0 w : World) (A B g : Nat) : Prop where
  below : Below w0.heap.size w0 w
  boxA : Box4 w A (.int .i64 3) (.int .i64 2097152) (.string ⟨#[]⟩) (.slice none 0 0)
  boxB : Box4 w B (.int .i64 6) (.int .i64 0) (.string ⟨#[]⟩) (.slice (some ⟨g, 0, none⟩) 2 2)
  list : w.heap[g]? = some (.cells #[.string tLog, .string tNet] 9 (0, 0))
theorem AW.below' {w0 w w' : World} {A B g : Nat} (h : AW w0 w A B g) (hb : Below w.heap.size w w') : AW w0 w' A B g :=
  ⟨h.below.trans (hb.mono h.below.size), h.boxA.below hb, h.boxB.below hb, by rw [hb.block g (Array.getElem?_eq_some_iff.1 h.list).1]; exact h.list⟩
theorem AW.argB {w0 w : World} {A B g : Nat} (h : AW w0 w A B g) : ArgOk w vB (some ⟨g, 0, none⟩) 2 := by
  have hl : g < w.heap.size := (Array.getElem?_eq_some_iff.1 h.list).1
  have c : ∀ k, w.cell? ⟨g, k, none⟩ = (#[Value.string tLog, .string tNet] : Array Value)[k]? := fun k => cell_of_row w g k #[.string tLog, .string tNet] 9 (0, 0) h.list
  refine ⟨fun k hk => ⟨g, 0, rfl, hl, ?_⟩, Nat.le_refl _, by decide, fun k hk => ?_, by decide⟩
  · have hk2 : k = 0 ∨ k = 1 := by simp [vB] at hk; omega
    rcases hk2 with rfl | rfl
    · rw [c]; rfl
    · rw [c]; rfl
  · have hk2 : k = 0 ∨ k = 1 := by simp [vB] at hk; omega
    rcases hk2 with rfl | rfl
    · show tLog.size ≤ maxLen; decide
    · show tNet.size ≤ maxLen; decide
theorem AW.net {w0 w : World} {A B g : Nat} (h : AW w0 w A B g) : w.cell? ⟨g, 1, none⟩ = some (.string ⟨#[110, 101, 116]⟩) := by
  rw [cell_of_row w g 1 #[.string tLog, .string tNet] 9 (0, 0) h.list]; rfl

set_option maxHeartbeats 3200000 in
set_option maxRecDepth 100000 in
theorem awake_any (w : World) (hS : Std w) : Calls Tryd.prog 8 #[] w fun e w' => e = .returned (.bool true) ∧ Below w.heap.size w w' := by
  have HS := Lib.hid hS
  clear hS
  have HPA : Hid (∀ w1, Below w.heap.size w w1 → Calls Tryd.prog 19 #[.agg #[.int .i64 3, .int .i64 2097152, .string ⟨#[]⟩, .slice none 0 0]] w1 fun e w' => e = .returned (.tuple #[.string ⟨#[50, 109]⟩, .int .i64 0]) ∧ Below w1.heap.size w1 w') := Lib.hid fun w1 hb => by
    have := print_any w1 vA none 0 (argA w1) (HS.out.below hb)
    rw [exP] at this
    exact this
  have HPS : Hid (∀ k s w1, s.size ≤ maxLen → Below w.heap.size w w1 → Calls Tryd.prog 12 #[.int .i64 k, .string s] w1 (ParseRes w1 (parseV k s))) := Lib.hid fun k s w1 hs hb =>
    parse_any k s w1 (HS.out.below hb).tab (HS.out.below hb).units (HS.out.below hb).maxI hs
  have HR : Hid (∀ w1 A B g, AW w w1 A B g → Calls Tryd.prog 18 #[.agg #[.int .i64 6, .int .i64 0, .string ⟨#[]⟩, .slice (some ⟨g, 0, none⟩) 2 2]] w1 fun e w' => e = .returned (.bool true) ∧ Below w1.heap.size w1 w') := Lib.hid fun w1 A B g h => by
    have := right_any w1 vB (some ⟨g, 0, none⟩) 2 h.argB (HS.out.below h.below).tab
    rw [rightB] at this; exact this
  have HI : Hid (∀ w1 A B g, AW w w1 A B g → Calls Tryd.prog 24 #[.agg #[.int .i64 6, .int .i64 0, .string ⟨#[]⟩, .slice (some ⟨g, 0, none⟩) 2 2], .int .i64 0, .int .i64 2] w1 fun e w' => e = .returned (.bool true) ∧ Below w1.heap.size w1 w') := Lib.hid fun w1 A B g h => by
    have := within_any w1 vB 0 2 (some ⟨g, 0, none⟩) 2 h.argB (HS.out.below h.below).tab
    rw [inB] at this; exact this
  have HO : Hid (∀ w1 A B g, AW w w1 A B g → Calls Tryd.prog 24 #[.agg #[.int .i64 6, .int .i64 0, .string ⟨#[]⟩, .slice (some ⟨g, 0, none⟩) 2 2], .int .i64 0, .int .i64 1] w1 fun e w' => e = .returned (.bool false) ∧ Below w1.heap.size w1 w') := Lib.hid fun w1 A B g h => by
    have := within_any w1 vB 0 1 (some ⟨g, 0, none⟩) 2 h.argB (HS.out.below h.below).tab
    rw [outB] at this; exact this
  have HSM : Hid (∀ w1 A B g, AW w w1 A B g → Calls Tryd.prog 20 #[.agg #[.int .i64 3, .int .i64 2097152, .string ⟨#[]⟩, .slice none 0 0], .agg #[.int .i64 6, .int .i64 0, .string ⟨#[]⟩, .slice (some ⟨g, 0, none⟩) 2 2]] w1 fun e w' => e = .returned (.bool false) ∧ Below w1.heap.size w1 w') := Lib.hid fun w1 A B g h => by
    have := same_any w1 vA vB none (some ⟨g, 0, none⟩) 0 2 (argA w1) h.argB
    rw [diffAB] at this; exact this
  have HU : Hid (∀ w1, Below w.heap.size w w1 → Calls Tryd.prog 9 #[.int .i64 4, .string ⟨#[100]⟩] w1 fun e w' => e = .returned (.int .i64 86400) ∧ Below w1.heap.size w1 w') := Lib.hid fun w1 hb => unit_any 4 ⟨#[100]⟩ w1 (HS.out.below hb).units
  go_enter Tryd.func8, Tryd.ntmps8
  go_wp2_with fail
  refine (HPS.out 3 _ _ (by decide) (Below.refl _ _)).mono ?_
  rintro e w1 ⟨hb1, xa, ca, rfl, hOa⟩
  rw [exA] at hOa ⊢
  obtain ⟨rfl, rfl⟩ := hOa.empty
  simp only [vA, List.length_nil]
  have HB1 := Lib.hid hb1
  clear hb1 hOa
  go_wp2_with fail
  refine (HPA.out _ (HB1.out.alloc HB1.out.size _)).mono ?_
  rintro e w2 ⟨rfl, hb2⟩
  have HX2 : Hid (Below w.heap.size w w2 ∧ Box4 w2 w1.heap.size (.int .i64 3) (.int .i64 2097152) (.string ⟨#[]⟩) (.slice none 0 0)) := Lib.hid ⟨(HB1.out.alloc HB1.out.size _).trans (hb2.mono (HB1.out.alloc HB1.out.size _).size), (box4_new w1 _ _ _ _ _).below hb2⟩
  obtain ⟨A, hA⟩ : ∃ A, w1.heap.size = A := ⟨_, rfl⟩
  rw [hA] at HX2 ⊢
  clear hb2 hA HB1 HPA
  go_wp2_with fail
  refine (HPS.out 6 _ _ (by decide) HX2.out.1).mono ?_
  rintro e w3 ⟨hb3, xb, cb, rfl, hOb⟩
  rw [exB] at hOb ⊢
  simp only [vB, List.length_cons, List.length_nil, Nat.zero_add, Nat.reduceAdd] at hOb ⊢
  obtain ⟨g, rfl, hg1, rfl, _, hg2⟩ : ∃ g, xb = some ⟨g, 0, none⟩ ∧ w2.heap.size ≤ g ∧ cb = 2 ∧ True ∧ w3.heap[g]? = some (.cells #[.string tLog, .string tNet] 9 (0, 0)) := by
    rcases hOb with ⟨_, h, _⟩ | ⟨g, h1, h2, h3, _, h5⟩
    · cases h
    · exact ⟨g, h1, h2, h3, trivial, h5⟩
  have hc3 : Below w.heap.size w w3 := HX2.out.1.trans (hb3.mono HX2.out.1.size)
  have hbx : Box4 w3 A (.int .i64 3) (.int .i64 2097152) (.string ⟨#[]⟩) (.slice none 0 0) := HX2.out.2.below hb3
  have HW3 : Hid (∀ t, AW w (w3.alloc (.cells #[.int .i64 6, .int .i64 0, .string ⟨#[]⟩, .slice (some ⟨g, 0, none⟩) 2 2] t)) A w3.heap.size g) := Lib.hid fun t => by
    have hal : Below w3.heap.size w3 (w3.alloc (.cells #[.int .i64 6, .int .i64 0, .string ⟨#[]⟩, .slice (some ⟨g, 0, none⟩) 2 2] t)) := (Below.refl _ _).alloc (Nat.le_refl _) _
    exact ⟨hc3.trans (hal.mono hc3.size), hbx.below hal, box4_new w3 _ _ _ _ _, by rw [hal.block g (Array.getElem?_eq_some_iff.1 hg2).1]; exact hg2⟩
  clear hb3 hOb hc3 hbx hg1 hg2 HX2
  obtain ⟨B, hB⟩ : ∃ B, w3.heap.size = B := ⟨_, rfl⟩
  go_wp2_with fail
  refine (HPS.out 4 _ _ (by decide) (HW3.out _).below).mono ?_
  rintro e w4 ⟨hb4, x4, c4, rfl, hO4⟩
  rw [exC] at hO4 ⊢
  obtain ⟨rfl, rfl⟩ := hO4.empty
  simp only [zeroV, List.length_nil]
  have HW4 := Lib.hid ((HW3.out _).below' hb4)
  rw [hB] at HW4
  clear hb4 hO4 HW3 hB
  go_wp2_with fail
  refine (HPS.out 7 _ _ (by decide) (HW4.out.below' ((Below.refl _ _).alloc (Nat.le_refl _) _)).below).mono ?_
  rintro e w5 ⟨hb5, x5, c5, rfl, hO5⟩
  rw [exD] at hO5 ⊢
  obtain ⟨rfl, rfl⟩ := hO5.empty
  simp only [zeroV, List.length_nil]
  have HW5 := Lib.hid ((HW4.out.below' ((Below.refl _ _).alloc (Nat.le_refl _) _)).below' hb5)
  clear hb5 hO5 HW4
  go_wp2_with fail
  refine (HPS.out 2 _ _ (by decide) (HW5.out.below' ((Below.refl _ _).alloc (Nat.le_refl _) _)).below).mono ?_
  rintro e w6 ⟨hb6, x6, c6, rfl, hO6⟩
  rw [exE] at hO6 ⊢
  obtain ⟨rfl, rfl⟩ := hO6.empty
  simp only [zeroV, List.length_nil]
  have HW6 := Lib.hid ((HW5.out.below' ((Below.refl _ _).alloc (Nat.le_refl _) _)).below' hb6)
  clear hb6 hO6 HW5 HPS
  have HW7 : Hid (∀ o, AW w (w6.alloc o) A B g) := Lib.hid fun o => HW6.out.below' ((Below.refl _ _).alloc (Nat.le_refl _) o)
  have hBl : B < w6.heap.size := HW6.out.boxB.lt
  have hAl : A < w6.heap.size := HW6.out.boxA.lt
  obtain ⟨b0, b1, b2, b3, _, _, _, _⟩ := HW6.out.boxB
  go_wp2_with fail
  refine (HR.out _ A B g (HW7.out _)).mono ?_
  rintro e w8 ⟨rfl, hb8⟩
  have HW8 := Lib.hid ((HW7.out _).below' hb8)
  clear hb8 HW7 HW6 HR b0 b1 b2 b3 hBl hAl
  obtain ⟨b0, b1, b2, b3, _, _, _, _⟩ := HW8.out.boxB
  go_wp2_with fail
  refine (HI.out _ A B g HW8.out).mono ?_
  rintro e w9 ⟨rfl, hb9⟩
  have HW9 := Lib.hid (HW8.out.below' hb9)
  clear hb9 HW8 HI b0 b1 b2 b3
  obtain ⟨b0, b1, b2, b3, _, _, _, _⟩ := HW9.out.boxB
  go_wp2_with fail
  refine (HO.out _ A B g HW9.out).mono ?_
  rintro e w10 ⟨rfl, hb10⟩
  have HW10 := Lib.hid (HW9.out.below' hb10)
  clear hb10 HW9 HO b0 b1 b2 b3
  obtain ⟨b0, b1, b2, b3, _, _, _, _⟩ := HW10.out.boxB
  obtain ⟨a0, a1, a2, a3, _, _, _, _⟩ := HW10.out.boxA
  go_wp2_with fail
  refine (HSM.out _ A B g HW10.out).mono ?_
  rintro e w11 ⟨rfl, hb11⟩
  have HW11 := Lib.hid (HW10.out.below' hb11)
  clear hb11 HW10 HSM b0 b1 b2 b3 a0 a1 a2 a3
  obtain ⟨b0, b1, b2, b3, _, _, _, _⟩ := HW11.out.boxB
  obtain ⟨a0, a1, a2, a3, _, _, _, _⟩ := HW11.out.boxA
  have hn := HW11.out.net
  go_wp2_with fail
  refine (HU.out _ HW11.out.below).mono ?_
  rintro e w12 ⟨rfl, hb12⟩
  have HB12 := Lib.hid (HW11.out.below.trans (hb12.mono HW11.out.below.size))
  clear hb12 HW11 HU
  go_wp2
  go_ret
  exact ⟨rfl, HB12.out⟩
end Go.Proofs.YtolibkcdfhbdiaaDoor
