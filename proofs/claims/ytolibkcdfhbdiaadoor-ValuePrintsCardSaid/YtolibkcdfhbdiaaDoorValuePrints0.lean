/-
  The walk of the law ValuePrints.
-/
import Derived.Test.YtolibkcdfhbdiaaDoorValueWithin0
import Derived.Test.YtolibkcdfhbdiaaDoorValueRefPrint
import Derived.Test.YtolibkcdfhbdiaaDoorValueSame
namespace Go.Proofs.YtolibkcdfhbdiaaDoor
open Go.ChangeShapes Go.WideShapes Go.ChangeAt Go.RowKit

theorem sameV_comm (v u : Val) : sameV v u = sameV u v := by
  unfold sameV
  rw [decide_eq_decide.2 (show v.kind = u.kind ↔ u.kind = v.kind from eq_comm), decide_eq_decide.2 (show v.int = u.int ↔ u.int = v.int from eq_comm), decide_eq_decide.2 (show v.text = u.text ↔ u.text = v.text from eq_comm), decide_eq_decide.2 (show v.words = u.words ↔ u.words = v.words from eq_comm)]

/-- The two values, in their blocks. -/
structure W2 (w0 w : World) (A B : Nat) (v u : Val) (x y : Option Addr) (c d : Nat) : Prop where
  below : Below w0.heap.size w0 w
  boxA : Box4 w A (.int .i64 v.kind) (.int .i64 v.int) (.string v.text) (.slice x v.words.length c)
  boxB : Box4 w B (.int .i64 u.kind) (.int .i64 u.int) (.string u.text) (.slice y u.words.length d)
  tx : Txts w x v.words
  ty : Txts w y u.words
section
variable {w0 w w' : World} {A B : Nat} {v u : Val} {x y : Option Addr} {c d : Nat}
theorem W2.below' (h : W2 w0 w A B v u x y c d) (hb : Below w.heap.size w w') : W2 w0 w' A B v u x y c d :=
  ⟨h.below.trans (hb.mono h.below.size), h.boxA.below hb, h.boxB.below hb, h.tx.below hb, h.ty.below hb⟩
/-- A row of its own turned. -/
theorem W2.far (h : W2 w0 w A B v u x y c d) {g : Nat} (hg : w.grownBy w' (some g)) (hA : A ≠ g) (hB : B ≠ g) (h0 : w0.heap.size ≤ g) (hx : Txts w0 x v.words) (hy : Txts w0 y u.words) : W2 w0 w' A B v u x y c d :=
  ⟨grownBy_below h.below hg h0, h.boxA.far hg hA, h.boxB.far hg hB, h.tx.far hg hx.old h0, h.ty.far hg hy.old h0⟩
/-- Both are lent. -/
structure P2 (w0 w : World) (A B C D g g2 : Nat) (v u : Val) (x y : Option Addr) (c d : Nat) : Prop where
  both : W2 w0 w A B v u x y c d
  boxC : Box4 w C (.int .i64 v.kind) (.int .i64 v.int) (.string v.text) (.slice (some ⟨g, 0, none⟩) v.words.length (v.words.length + 2))
  boxD : Box4 w D (.int .i64 u.kind) (.int .i64 u.int) (.string u.text) (.slice (some ⟨g2, 0, none⟩) u.words.length (u.words.length + 2))
  lg : LentAt w g v.words
  lg2 : LentAt w g2 u.words
theorem P2.below' {C D g g2 : Nat} (h : P2 w0 w A B C D g g2 v u x y c d) (hb : Below w.heap.size w w') : P2 w0 w' A B C D g g2 v u x y c d :=
  ⟨h.both.below' hb, h.boxC.below hb, h.boxD.below hb, h.lg.below hb, h.lg2.below hb⟩
theorem LentAt.far {g g2 : Nat} {xs : List ByteArray} (h : LentAt w g2 xs) (hg : w.grownBy w' (some g)) (hn : g2 ≠ g) : LentAt w' g2 xs := by
  have hl := h.lt
  obtain ⟨cur, h1, h2⟩ := h
  exact ⟨cur, by rw [hg.block g2 hl (by simpa using hn)]; exact h1, h2⟩
theorem RawOk.arg {w1 : World} (h : RawOk w v x c) (hl : v.words.length ≤ 2147483647) (ht : Txts w1 x v.words) : ArgOk w1 v x c := ⟨ht, h.room, by omega, h.sizes, h.text⟩
theorem RawOk.lent {w1 : World} {g : Nat} (h : RawOk w v x c) (hl : v.words.length ≤ 2147483647) (ht : LentAt w1 g v.words) : ArgOk w1 v (some ⟨g, 0, none⟩) (v.words.length + 2) := ⟨ht.txts, by omega, by omega, h.sizes, h.text⟩
end

set_option maxHeartbeats 3200000 in
set_option maxRecDepth 100000 in
theorem prints_any (w : World) (v u : Val) (x y : Option Addr) (c d : Nat) (hS : Std w) (h1 : RawOk w v x c) (h2 : RawOk w u y d) :
    Calls Tryd.prog 5 #[argV v x c, argV u y d] w fun e w' => e = .returned (.bool true) ∧ Below w.heap.size w w' := by
  have HS := Lib.hid hS
  have H1 := Lib.hid h1
  have H2 := Lib.hid h2
  have HVB : Hid (∀ p q, W2 w ((w.alloc (.cells #[.int .i64 v.kind, .int .i64 v.int, .string v.text, .slice x v.words.length c] p)).alloc (.cells #[.int .i64 u.kind, .int .i64 u.int, .string u.text, .slice y u.words.length d] q)) w.heap.size (w.heap.size + 1) v u x y c d) := Lib.hid fun p q => by
    have b1 := below_one w (Obj.cells #[.int .i64 v.kind, .int .i64 v.int, .string v.text, .slice x v.words.length c] p)
    have b2 := below_one (w.alloc (Obj.cells #[.int .i64 v.kind, .int .i64 v.int, .string v.text, .slice x v.words.length c] p)) (Obj.cells #[.int .i64 u.kind, .int .i64 u.int, .string u.text, .slice y u.words.length d] q)
    have b3 := b1.trans (b2.mono b1.size)
    refine ⟨b3, (box4_new w _ _ _ _ p).below b2, ?_, h1.list.below b3, h2.list.below b3⟩
    have := box4_new (w.alloc (.cells #[.int .i64 v.kind, .int .i64 v.int, .string v.text, .slice x v.words.length c] p)) (.int .i64 u.kind) (.int .i64 u.int) (.string u.text) (.slice y u.words.length d) q
    rw [World.size_alloc] at this; exact this
  have HG1 : Hid (∀ w1, Below w.heap.size w w1 → Calls Tryd.prog 16 #[.agg #[.int .i64 v.kind, .int .i64 v.int, .string v.text, .slice x v.words.length c]] w1 fun e w' => ∃ r, e = .returned (.int .i64 r) ∧ (0 ≤ r ∧ r ≤ 4294967294) ∧ (r ≤ 2147483647 → v.words.length ≤ 2147483647) ∧ Below w1.heap.size w1 w') := Lib.hid fun w1 hb => weighs_any w1 v x c (h1.below hb)
  have HG2 : Hid (∀ w1, Below w.heap.size w w1 → Calls Tryd.prog 16 #[.agg #[.int .i64 u.kind, .int .i64 u.int, .string u.text, .slice y u.words.length d]] w1 fun e w' => ∃ r, e = .returned (.int .i64 r) ∧ (0 ≤ r ∧ r ≤ 4294967294) ∧ (r ≤ 2147483647 → u.words.length ≤ 2147483647) ∧ Below w1.heap.size w1 w') := Lib.hid fun w1 hb => weighs_any w1 u y d (h2.below hb)
  have HL1 : Hid (v.words.length ≤ 2147483647 → ∀ w1, Txts w1 x v.words → Calls Tryd.prog 17 #[.agg #[.int .i64 v.kind, .int .i64 v.int, .string v.text, .slice x v.words.length c]] w1 fun e w' => ∃ g, e = .returned (.agg #[.int .i64 v.kind, .int .i64 v.int, .string v.text, .slice (some ⟨g, 0, none⟩) v.words.length (v.words.length + 2)]) ∧ w1.heap.size ≤ g ∧ LentAt w' g v.words ∧ Below w1.heap.size w1 w') := Lib.hid fun hl w1 ht => lent_any w1 v x c (h1.arg hl ht) hl
  have HL2 : Hid (u.words.length ≤ 2147483647 → ∀ w1, Txts w1 y u.words → Calls Tryd.prog 17 #[.agg #[.int .i64 u.kind, .int .i64 u.int, .string u.text, .slice y u.words.length d]] w1 fun e w' => ∃ g, e = .returned (.agg #[.int .i64 u.kind, .int .i64 u.int, .string u.text, .slice (some ⟨g, 0, none⟩) u.words.length (u.words.length + 2)]) ∧ w1.heap.size ≤ g ∧ LentAt w' g u.words ∧ Below w1.heap.size w1 w') := Lib.hid fun hl w1 ht => lent_any w1 u y d (h2.arg hl ht) hl
  obtain ⟨R1, hR1⟩ : ∃ R1, rightV v = R1 := ⟨_, rfl⟩
  obtain ⟨R2, hR2⟩ : ∃ R2, rightV u = R2 := ⟨_, rfl⟩
  obtain ⟨T1, hT1⟩ : ∃ T1, mkB (printR v).1 = T1 := ⟨_, rfl⟩
  obtain ⟨E1, hE1⟩ : ∃ E1, (printR v).2 = E1 := ⟨_, rfl⟩
  obtain ⟨T2, hT2⟩ : ∃ T2, mkB (printR u).1 = T2 := ⟨_, rfl⟩
  obtain ⟨E2, hE2⟩ : ∃ E2, (printR u).2 = E2 := ⟨_, rfl⟩
  obtain ⟨Z, hZ⟩ : ∃ Z, sameV v u = Z := ⟨_, rfl⟩
  have hZ' : sameV u v = Z := by rw [sameV_comm]; exact hZ
  have hself : sameV v v = true := by simp [sameV]
  -- the program's calls on what is lent
  have HC : Hid (v.words.length ≤ 2147483647 → u.words.length ≤ 2147483647 → ∀ A B C D g g2 w1, P2 w w1 A B C D g g2 v u x y c d →
      Calls Tryd.prog 18 #[.agg #[.int .i64 v.kind, .int .i64 v.int, .string v.text, .slice (some ⟨g, 0, none⟩) v.words.length (v.words.length + 2)]] w1 (fun e w' => e = .returned (.bool R1) ∧ Below w1.heap.size w1 w') ∧
      Calls Tryd.prog 18 #[.agg #[.int .i64 u.kind, .int .i64 u.int, .string u.text, .slice (some ⟨g2, 0, none⟩) u.words.length (u.words.length + 2)]] w1 (fun e w' => e = .returned (.bool R2) ∧ Below w1.heap.size w1 w') ∧
      Calls Tryd.prog 19 #[.agg #[.int .i64 v.kind, .int .i64 v.int, .string v.text, .slice (some ⟨g, 0, none⟩) v.words.length (v.words.length + 2)]] w1 (fun e w' => e = .returned (.tuple #[.string T1, .int .i64 E1]) ∧ Below w1.heap.size w1 w') ∧
      Calls Tryd.prog 19 #[.agg #[.int .i64 u.kind, .int .i64 u.int, .string u.text, .slice (some ⟨g2, 0, none⟩) u.words.length (u.words.length + 2)]] w1 (fun e w' => e = .returned (.tuple #[.string T2, .int .i64 E2]) ∧ Below w1.heap.size w1 w')) := Lib.hid fun l1 l2 A B C D g g2 w1 hp => by
    have a1 := h1.lent l1 hp.lg
    have a2 := h2.lent l2 hp.lg2
    have hs := hS.below hp.both.below
    have c1 := right_any w1 v _ _ a1 hs.tab
    have c2 := right_any w1 u _ _ a2 hs.tab
    have c3 := print_any w1 v _ _ a1 hs
    have c4 := print_any w1 u _ _ a2 hs
    rw [hR1] at c1
    rw [hR2] at c2
    rw [hT1, hE1] at c3
    rw [hT2, hE2] at c4
    exact ⟨c1, c2, c3, c4⟩
  have HM : Hid (v.words.length ≤ 2147483647 → u.words.length ≤ 2147483647 → ∀ A B C D g g2 w1, P2 w w1 A B C D g g2 v u x y c d →
      Calls Tryd.prog 20 #[.agg #[.int .i64 v.kind, .int .i64 v.int, .string v.text, .slice (some ⟨g, 0, none⟩) v.words.length (v.words.length + 2)], .agg #[.int .i64 u.kind, .int .i64 u.int, .string u.text, .slice (some ⟨g2, 0, none⟩) u.words.length (u.words.length + 2)]] w1 (fun e w' => e = .returned (.bool Z) ∧ Below w1.heap.size w1 w') ∧
      Calls Tryd.prog 20 #[.agg #[.int .i64 u.kind, .int .i64 u.int, .string u.text, .slice (some ⟨g2, 0, none⟩) u.words.length (u.words.length + 2)], .agg #[.int .i64 v.kind, .int .i64 v.int, .string v.text, .slice (some ⟨g, 0, none⟩) v.words.length (v.words.length + 2)]] w1 (fun e w' => e = .returned (.bool Z) ∧ Below w1.heap.size w1 w') ∧
      Calls Tryd.prog 20 #[.agg #[.int .i64 v.kind, .int .i64 v.int, .string v.text, .slice (some ⟨g, 0, none⟩) v.words.length (v.words.length + 2)], .agg #[.int .i64 v.kind, .int .i64 v.int, .string v.text, .slice x v.words.length c]] w1 (fun e w' => e = .returned (.bool true) ∧ Below w1.heap.size w1 w') ∧
      Calls Tryd.prog 21 #[.agg #[.int .i64 v.kind, .int .i64 v.int, .string v.text, .slice (some ⟨g, 0, none⟩) v.words.length (v.words.length + 2)], .agg #[.int .i64 v.kind, .int .i64 v.int, .string v.text, .slice x v.words.length c]] w1 (fun e w' => e = .returned (.bool true) ∧ w1.grownBy w' (some g))) := Lib.hid fun l1 l2 A B C D g g2 w1 hp => by
    have a1 := h1.lent l1 hp.lg
    have a2 := h2.lent l2 hp.lg2
    have c1 := same_any w1 v u _ _ _ _ a1 a2
    have c2 := same_any w1 u v _ _ _ _ a2 a1
    have c3 := same_any w1 v v _ _ _ _ a1 (h1.arg l1 hp.both.tx)
    rw [hZ] at c1
    rw [hZ'] at c2
    rw [hself] at c3
    exact ⟨c1, c2, c3, whole_any w1 v g x c hp.lg (h1.arg l1 hp.both.tx) l1⟩
  have HW : Hid (u.words.length ≤ 2147483647 → ∀ A B g2 w1, W2 w w1 A B v u x y c d → LentAt w1 g2 u.words →
      Calls Tryd.prog 21 #[.agg #[.int .i64 u.kind, .int .i64 u.int, .string u.text, .slice (some ⟨g2, 0, none⟩) u.words.length (u.words.length + 2)], .agg #[.int .i64 u.kind, .int .i64 u.int, .string u.text, .slice y u.words.length d]] w1 (fun e w' => e = .returned (.bool true) ∧ w1.grownBy w' (some g2))) := Lib.hid fun l2 A B g2 w1 hw hl => whole_any w1 u g2 y d hl (h2.arg l2 hw.ty) l2
  have HD : Hid (v.words.length ≤ 2147483647 → u.words.length ≤ 2147483647 → ∀ A B w1, W2 w w1 A B v u x y c d →
      Calls Tryd.prog 22 #[.agg #[.int .i64 v.kind, .int .i64 v.int, .string v.text, .slice x v.words.length c]] w1 (fun e w' => e = .returned (.tuple #[.string T1, .int .i64 E1]) ∧ Below w1.heap.size w1 w') ∧
      Calls Tryd.prog 22 #[.agg #[.int .i64 u.kind, .int .i64 u.int, .string u.text, .slice y u.words.length d]] w1 (fun e w' => e = .returned (.tuple #[.string T2, .int .i64 E2]) ∧ Below w1.heap.size w1 w') ∧
      Calls Tryd.prog 23 #[.agg #[.int .i64 v.kind, .int .i64 v.int, .string v.text, .slice x v.words.length c]] w1 (fun e w' => e = .returned (.bool R1) ∧ Below w1.heap.size w1 w') ∧
      Calls Tryd.prog 23 #[.agg #[.int .i64 u.kind, .int .i64 u.int, .string u.text, .slice y u.words.length d]] w1 (fun e w' => e = .returned (.bool R2) ∧ Below w1.heap.size w1 w') ∧
      Calls Tryd.prog 14 #[.agg #[.int .i64 v.kind, .int .i64 v.int, .string v.text, .slice x v.words.length c], .agg #[.int .i64 u.kind, .int .i64 u.int, .string u.text, .slice y u.words.length d]] w1 (fun e w' => e = .returned (.bool Z) ∧ Below w1.heap.size w1 w')) := Lib.hid fun l1 l2 A B w1 hw => by
    have a1 := h1.arg l1 hw.tx
    have a2 := h2.arg l2 hw.ty
    have c1 := refPrint_any w1 v _ _ a1 l1
    have c2 := refPrint_any w1 u _ _ a2 l2
    have c3 := refRight_any w1 v _ _ a1 l1
    have c4 := refRight_any w1 u _ _ a2 l2
    have c5 := refSame_any w1 v u _ _ _ _ a1 a2
    rw [hT1, hE1] at c1
    rw [hT2, hE2] at c2
    rw [hR1] at c3
    rw [hR2] at c4
    rw [hZ] at c5
    exact ⟨c1, c2, c3, c4, c5⟩
  clear hS h1 h2 hR1 hR2 hT1 hE1 hT2 hE2 hZ hZ' hself
  unfold argV
  obtain ⟨k1, n1, t1, xs⟩ := v
  obtain ⟨k2, n2, t2, ys⟩ := u
  simp only at HVB HG1 HG2 HL1 HL2 HC HM HW HD ⊢
  go_enter Tryd.func5, Tryd.ntmps5
  go_wp2_with fail
  obtain ⟨B, hB⟩ : ∃ B, w.heap.size + 1 = B := ⟨_, rfl⟩
  obtain ⟨A, hA⟩ : ∃ A, w.heap.size = A := ⟨_, rfl⟩
  have HAB : Hid (A < B ∧ w.heap.size = A) := Lib.hid ⟨by omega, hA⟩
  rw [hB] at HVB
  refine gen_world (fun W => W2 w W w.heap.size B ⟨k1, n1, t1, xs⟩ ⟨k2, n2, t2, ys⟩ x y c d) (HVB.out _ _) ?_
  intro wa hva
  try rw [World.size_alloc]
  rw [hA] at hva
  try rw [hB]
  rw [hA]
  have HV0 := Lib.hid hva
  have HVD : Hid (W2 w wa.drew A B ⟨k1, n1, t1, xs⟩ ⟨k2, n2, t2, ys⟩ x y c d) := Lib.hid (hva.below' (below_drewN wa 1))
  clear hva HVB hA hB
  obtain ⟨a0, a1, a2, a3, _, _, _, _⟩ := HV0.out.boxA
  obtain ⟨b0, b1, b2, b3, _, _, _, _⟩ := HV0.out.boxB
  simp only at a0 a1 a2 a3 b0 b1 b2 b3
  go_region_held3 (fun w' => w'.cell? ⟨A, 0, none⟩ = some (.int .i64 k1) ∧ w'.cell? ⟨A, 1, none⟩ = some (.int .i64 n1) ∧ w'.cell? ⟨A, 2, none⟩ = some (.string t1) ∧ w'.cell? ⟨A, 3, none⟩ = some (.slice x xs.length c) ∧ w'.cell? ⟨B, 0, none⟩ = some (.int .i64 k2) ∧ w'.cell? ⟨B, 1, none⟩ = some (.int .i64 n2) ∧ w'.cell? ⟨B, 2, none⟩ = some (.string t2) ∧ w'.cell? ⟨B, 3, none⟩ = some (.slice y ys.length d)) (first | exact ⟨a0, a1, a2, a3, b0, b1, b2, b3⟩ | exact ⟨z0, z1, z2, z3, z4, z5, z6, z7⟩ | exact ⟨u0, u1, u2, u3, u4, u5, u6, u7⟩)
    (first
      | (go_at_call 16; (with_reducible refine (HG1.out _ HVD.out.below).mono ?_); rintro e w1 ⟨r1, rfl, hr1, hl1, hb1⟩; have HV1 := Lib.hid (HVD.out.below' hb1); obtain ⟨z0, z1, z2, z3, _, _, _, _⟩ := HV1.out.boxA; obtain ⟨z4, z5, z6, z7, _, _, _, _⟩ := HV1.out.boxB)
      | (go_at_call 16; (with_reducible refine (HG2.out _ HV1.out.below).mono ?_); rintro e w2 ⟨r2, rfl, hr2, hl2, hb2⟩; have HV2 := Lib.hid (HV1.out.below' hb2); obtain ⟨u0, u1, u2, u3, _, _, _, _⟩ := HV2.out.boxA; obtain ⟨u4, u5, u6, u7, _, _, _, _⟩ := HV2.out.boxB)
      | (go_at_call 11; (with_reducible refine (adds_any _ _ _ (by omega) (by omega)).mono ?_); rintro e w3 ⟨r3, rfl, hr3, ha3, rfl⟩))
  by_cases hr : 2147483647 < r3
  · rw [decide_eq_true hr]
    go_wp2
    go_ret
    exact ⟨rfl, HV2.out.below⟩
  have HX1 := Lib.hid (hl1 (by omega))
  have HX2 := Lib.hid (hl2 (by omega))
  rw [decide_eq_false hr]
  clear hl1 hl2 HG1 HG2 HV0 HVD HV1 hb1 hb2 a0 a1 a2 a3 b0 b1 b2 b3 z0 z1 z2 z3 z4 z5 z6 z7 u0 u1 u2 u3 u4 u5 u6 u7 hr1 hr2 ha3 hr3 hr
  go_wp2_with fail
  refine (awake_any _ (HS.out.below HV2.out.below)).mono ?_
  rintro e w3 ⟨rfl, hb3⟩
  have HV3 := Lib.hid (HV2.out.below' hb3)
  clear hb3 HV2
  obtain ⟨a0, a1, a2, a3, _, _, _, _⟩ := HV3.out.boxA
  simp only at a0 a1 a2 a3
  go_wp2_with fail
  refine (HL1.out HX1.out _ HV3.out.tx).mono ?_
  rintro e w4 ⟨g, rfl, hg, hL, hb4⟩
  have HV4 := Lib.hid (HV3.out.below' hb4)
  have HLG := Lib.hid hL
  have HO1 : Hid (w.heap.size ≤ g ∧ B < g ∧ g < w4.heap.size) := Lib.hid ⟨Nat.le_trans HV3.out.below.size hg, by have := HV3.out.boxB.lt; omega, hL.lt⟩
  clear hg hL hb4 HV3 a0 a1 a2 a3
  have HA4 : Hid (∀ p, W2 w (w4.alloc (.cells #[.int .i64 k1, .int .i64 n1, .string t1, .slice (some ⟨g, 0, none⟩) xs.length (xs.length + 2)] p)) A B ⟨k1, n1, t1, xs⟩ ⟨k2, n2, t2, ys⟩ x y c d ∧ Box4 (w4.alloc (.cells #[.int .i64 k1, .int .i64 n1, .string t1, .slice (some ⟨g, 0, none⟩) xs.length (xs.length + 2)] p)) w4.heap.size (.int .i64 k1) (.int .i64 n1) (.string t1) (.slice (some ⟨g, 0, none⟩) xs.length (xs.length + 2)) ∧ LentAt (w4.alloc (.cells #[.int .i64 k1, .int .i64 n1, .string t1, .slice (some ⟨g, 0, none⟩) xs.length (xs.length + 2)] p)) g xs) := Lib.hid fun p => ⟨HV4.out.below' (below_one _ _), box4_new w4 _ _ _ _ p, HLG.out.below (below_one _ _)⟩
  obtain ⟨b0, b1, b2, b3, _, _, _, _⟩ := (HA4.out 29).1.boxB
  simp only at b0 b1 b2 b3
  go_wp2_with fail
  refine (HL2.out HX2.out _ (HA4.out _).1.ty).mono ?_
  rintro e w5 ⟨g2, rfl, hg2, hL2, hb5⟩
  rw [World.size_alloc] at hg2
  have HV5 := Lib.hid ((HA4.out 29).1.below' hb5)
  have HBC5 := Lib.hid ((HA4.out 29).2.1.below hb5)
  have HLG5 := Lib.hid ((HA4.out 29).2.2.below hb5)
  have HLH5 := Lib.hid hL2
  have HO2 : Hid (w4.heap.size < g2 ∧ g2 < w5.heap.size) := Lib.hid ⟨by omega, hL2.lt⟩
  clear hg2 hL2 hb5 HA4 HV4 HLG b0 b1 b2 b3
  obtain ⟨C, hC⟩ : ∃ C, w4.heap.size = C := ⟨_, rfl⟩
  rw [hC] at HO1 HO2 HBC5 ⊢
  clear hC
  have HP5 : Hid (∀ p, P2 w (w5.alloc (.cells #[.int .i64 k2, .int .i64 n2, .string t2, .slice (some ⟨g2, 0, none⟩) ys.length (ys.length + 2)] p)) A B C w5.heap.size g g2 ⟨k1, n1, t1, xs⟩ ⟨k2, n2, t2, ys⟩ x y c d) := Lib.hid fun p => ⟨HV5.out.below' (below_one _ _), HBC5.out.below (below_one _ _), box4_new w5 _ _ _ _ p, HLG5.out.below (below_one _ _), HLH5.out.below (below_one _ _)⟩
  clear HV5 HBC5 HLG5 HLH5
  obtain ⟨c0, c1, c2, c3, _, _, _, _⟩ := (HP5.out 29).boxC
  simp only at c0 c1 c2 c3
  go_wp2_with fail
  refine (HC.out HX1.out HX2.out _ _ _ _ _ _ _ (HP5.out _)).1.mono ?_
  rintro e w6 ⟨rfl, hb⟩
  have HP6 := Lib.hid ((HP5.out 29).below' hb)
  have HO3 : Hid (g2 < w5.heap.size) := Lib.hid HO2.out.2
  clear hb HP5 c0 c1 c2 c3
  obtain ⟨D, hD⟩ : ∃ D, w5.heap.size = D := ⟨_, rfl⟩
  rw [hD] at HP6 HO2 HO3 ⊢
  clear hD
  obtain ⟨d0, d1, d2, d3, _, _, _, _⟩ := HP6.out.boxD
  simp only at d0 d1 d2 d3
  go_wp2_with fail
  refine (HC.out HX1.out HX2.out _ _ _ _ _ _ _ HP6.out).2.1.mono ?_
  rintro e w7 ⟨rfl, hb⟩
  have HP7 := Lib.hid (HP6.out.below' hb)
  clear hb HP6 d0 d1 d2 d3
  obtain ⟨c0, c1, c2, c3, _, _, _, _⟩ := HP7.out.boxC
  simp only at c0 c1 c2 c3
  go_wp2_with fail
  refine (HC.out HX1.out HX2.out _ _ _ _ _ _ _ HP7.out).2.2.1.mono ?_
  rintro e w8 ⟨rfl, hb⟩
  have HP8 := Lib.hid (HP7.out.below' hb)
  clear hb HP7 c0 c1 c2 c3
  obtain ⟨d0, d1, d2, d3, _, _, _, _⟩ := HP8.out.boxD
  simp only at d0 d1 d2 d3
  go_wp2_with fail
  refine (HC.out HX1.out HX2.out _ _ _ _ _ _ _ HP8.out).2.2.2.mono ?_
  rintro e w9 ⟨rfl, hb⟩
  have HP9 := Lib.hid (HP8.out.below' hb)
  clear hb HP8 d0 d1 d2 d3
  obtain ⟨c0, c1, c2, c3, _, _, _, _⟩ := HP9.out.boxC
  obtain ⟨d0, d1, d2, d3, _, _, _, _⟩ := HP9.out.boxD
  simp only at c0 c1 c2 c3 d0 d1 d2 d3
  go_wp2_with fail
  refine (HM.out HX1.out HX2.out _ _ _ _ _ _ _ HP9.out).1.mono ?_
  rintro e w10 ⟨rfl, hb⟩
  have HP10 := Lib.hid (HP9.out.below' hb)
  clear hb HP9 c0 c1 c2 c3 d0 d1 d2 d3
  obtain ⟨c0, c1, c2, c3, _, _, _, _⟩ := HP10.out.boxC
  obtain ⟨d0, d1, d2, d3, _, _, _, _⟩ := HP10.out.boxD
  simp only at c0 c1 c2 c3 d0 d1 d2 d3
  go_wp2_with fail
  refine (HM.out HX1.out HX2.out _ _ _ _ _ _ _ HP10.out).2.1.mono ?_
  rintro e w11 ⟨rfl, hb⟩
  have HP11 := Lib.hid (HP10.out.below' hb)
  clear hb HP10 c0 c1 c2 c3 d0 d1 d2 d3
  obtain ⟨c0, c1, c2, c3, _, _, _, _⟩ := HP11.out.boxC
  obtain ⟨a0, a1, a2, a3, _, _, _, _⟩ := HP11.out.both.boxA
  simp only at c0 c1 c2 c3 a0 a1 a2 a3
  go_wp2_with fail
  refine (HM.out HX1.out HX2.out _ _ _ _ _ _ _ HP11.out).2.2.1.mono ?_
  rintro e w12 ⟨rfl, hb⟩
  have HP12 := Lib.hid (HP11.out.below' hb)
  clear hb HP11 c0 c1 c2 c3 a0 a1 a2 a3
  obtain ⟨c0, c1, c2, c3, _, _, _, _⟩ := HP12.out.boxC
  obtain ⟨a0, a1, a2, a3, _, _, _, _⟩ := HP12.out.both.boxA
  simp only at c0 c1 c2 c3 a0 a1 a2 a3
  go_wp2_with fail
  refine (HM.out HX1.out HX2.out _ _ _ _ _ _ _ HP12.out).2.2.2.mono ?_
  rintro e w13 ⟨rfl, hg⟩
  have HW1 := Lib.hid (HP12.out.both.far hg (by have h1 := HAB.out.1; have h2 := HO1.out.2.1; omega) (by have h2 := HO1.out.2.1; omega) HO1.out.1 H1.out.list H2.out.list)
  have HL9 := Lib.hid (HP12.out.lg2.far hg (by have h1 := HO1.out.2.2; have h2 := HO2.out.1; omega))
  obtain ⟨d0, d1, d2, d3, _, _, _, _⟩ := HP12.out.boxD.far hg (by have h1 := HO1.out.2.2; have h2 := HO2.out.1; have h3 := HO3.out; omega)
  simp only at d0 d1 d2 d3
  clear hg HP12 c0 c1 c2 c3 a0 a1 a2 a3
  obtain ⟨b0, b1, b2, b3, _, _, _, _⟩ := HW1.out.boxB
  simp only at b0 b1 b2 b3
  go_wp2_with fail
  refine (HW.out HX2.out _ _ _ _ HW1.out HL9.out).mono ?_
  rintro e w14 ⟨rfl, hg⟩
  have HW2 := Lib.hid (HW1.out.far hg (by have h1 := HAB.out.1; have h2 := HO1.out.2; have h3 := HO2.out.1; omega) (by have h2 := HO1.out.2; have h3 := HO2.out.1; omega) (by have h1 := HO1.out; have h3 := HO2.out.1; omega) H1.out.list H2.out.list)
  clear hg HW1 HL9 b0 b1 b2 b3 d0 d1 d2 d3
  obtain ⟨a0, a1, a2, a3, _, _, _, _⟩ := HW2.out.boxA
  simp only at a0 a1 a2 a3
  go_wp2_with fail
  refine (HD.out HX1.out HX2.out _ _ _ HW2.out).1.mono ?_
  rintro e w15 ⟨rfl, hb⟩
  have HW3 := Lib.hid (HW2.out.below' hb)
  clear hb HW2 a0 a1 a2 a3
  obtain ⟨b0, b1, b2, b3, _, _, _, _⟩ := HW3.out.boxB
  simp only at b0 b1 b2 b3
  go_wp2_with fail
  refine (HD.out HX1.out HX2.out _ _ _ HW3.out).2.1.mono ?_
  rintro e w16 ⟨rfl, hb⟩
  have HW4 := Lib.hid (HW3.out.below' hb)
  clear hb HW3 b0 b1 b2 b3
  obtain ⟨a0, a1, a2, a3, _, _, _, _⟩ := HW4.out.boxA
  simp only at a0 a1 a2 a3
  go_wp2_with fail
  refine (HD.out HX1.out HX2.out _ _ _ HW4.out).2.2.1.mono ?_
  rintro e w17 ⟨rfl, hb⟩
  have HW5 := Lib.hid (HW4.out.below' hb)
  clear hb HW4 a0 a1 a2 a3
  obtain ⟨b0, b1, b2, b3, _, _, _, _⟩ := HW5.out.boxB
  simp only at b0 b1 b2 b3
  go_wp2_with fail
  refine (HD.out HX1.out HX2.out _ _ _ HW5.out).2.2.2.1.mono ?_
  rintro e w18 ⟨rfl, hb⟩
  have HW6 := Lib.hid (HW5.out.below' hb)
  clear hb HW5 b0 b1 b2 b3
  obtain ⟨a0, a1, a2, a3, _, _, _, _⟩ := HW6.out.boxA
  obtain ⟨b0, b1, b2, b3, _, _, _, _⟩ := HW6.out.boxB
  simp only at a0 a1 a2 a3 b0 b1 b2 b3
  go_wp2_with fail
  refine (HD.out HX1.out HX2.out _ _ _ HW6.out).2.2.2.2.mono ?_
  rintro e w19 ⟨rfl, hb⟩
  have HW7 := Lib.hid (HW6.out.below' hb)
  clear hb HW6 a0 a1 a2 a3 b0 b1 b2 b3
  go_wp2
  go_ret
  exact ⟨ret_bool (by simp), HW7.out.below⟩
end Go.Proofs.YtolibkcdfhbdiaaDoor
