/-
  The walk of the law ValueBack.
-/
import Derived.Test.YtgnbgligilnhkaaDoorValueAwake
import Derived.Test.YtgnbgligilnhkaaDoorValueAll
import Derived.Test.YtgnbgligilnhkaaDoorValueWeigh
import Derived.Deep.RegionHeld3
namespace Go.Proofs.YtgnbgligilnhkaaDoor
open Go.ChangeShapes Go.WideShapes Go.ChangeAt Go.RowKit

theorem OwnT.arg {B : Nat} {w : World} {v : Val} {x : Option Addr} {cap : Nat} (h : OwnT B w x cap v.words) (hl : v.words.length ≤ 2147483647) (hs : ∀ k (h : k < v.words.length), v.words[k].size ≤ maxLen) (ht : v.text.size ≤ maxLen) : ArgOk w v x cap := by
  rcases h with ⟨rfl, hn, rfl⟩ | ⟨g, rfl, _, rfl, _, hg⟩
  · exact ⟨by rw [hn]; exact Txts.nil_ _ _, by rw [hn]; exact Nat.le_refl _, by omega, hs, ht⟩
  · refine ⟨fun k hk => ⟨g, 0, rfl, (Array.getElem?_eq_some_iff.1 hg).1, ?_⟩, Nat.le_refl _, by omega, hs, ht⟩
    rw [cell_of_row w g (0 + k) _ _ _ hg]; simp [hk]
/-- The two values that came in, in their blocks. -/
structure VB (w0 w : World) (A B : Nat) (v u : Val) (x y : Option Addr) (c d : Nat) : Prop where
  below : Below w0.heap.size w0 w
  boxA : Box4 w A (.int .i64 v.kind) (.int .i64 v.int) (.string v.text) (.slice x v.words.length c)
  boxB : Box4 w B (.int .i64 u.kind) (.int .i64 u.int) (.string u.text) (.slice y u.words.length d)
theorem VB.below' {w0 w w' : World} {A B : Nat} {v u : Val} {x y : Option Addr} {c d : Nat} (h : VB w0 w A B v u x y c d) (hb : Below w.heap.size w w') : VB w0 w' A B v u x y c d :=
  ⟨h.below.trans (hb.mono h.below.size), h.boxA.below hb, h.boxB.below hb⟩

/-- A value that was read, in its block. -/
structure XB (w0 w : World) (X : Nat) (v : Val) (x : Option Addr) (c : Nat) : Prop where
  below : Below w0.heap.size w0 w
  box : Box4 w X (.int .i64 v.kind) (.int .i64 v.int) (.string v.text) (.slice x v.words.length c)
  arg : ArgOk w v x c
theorem XB.below' {w0 w w' : World} {X : Nat} {v : Val} {x : Option Addr} {c : Nat} (h : XB w0 w X v x c) (hb : Below w.heap.size w w') : XB w0 w' X v x c :=
  ⟨h.below.trans (hb.mono h.below.size), h.box.below hb, h.arg.below hb⟩
theorem right_arg {v : Val} (hr : rightV v = true) : v.words.length ≤ 2147483647 ∧ (∀ k (h : k < v.words.length), v.words[k].size ≤ maxLen) ∧ v.text.size ≤ maxLen := by
  have hz : ∀ t : ByteArray, t.data.toList = [] → t.size ≤ maxLen := fun t h => by
    have : t.size = t.data.toList.length := by simp
    rw [this, h]; unfold maxLen; simp
  rcases right_cases hr with ⟨_, _, ht, hx⟩ | ⟨_, _, ht, hx⟩ | ⟨_, _, ht, hx⟩ | ⟨_, _, ht, hx⟩ | ⟨_, _, ht, h1, h2, _⟩
  · exact ⟨by omega, fun k h => by omega, hz _ ht⟩
  · exact ⟨by omega, fun k h => by omega, hz _ ht⟩
  · exact ⟨by omega, fun k h => by omega, hz _ ht⟩
  · refine ⟨by omega, fun k h => by omega, ?_⟩
    have h2 := (textV_zero ht).2
    have : v.text.size = v.text.data.toList.length := by simp
    unfold maxLen; omega
  · refine ⟨by omega, fun k h => ?_, hz _ ht⟩
    have hm : v.words[k].data.toList ∈ wl v.words := List.mem_map.2 ⟨_, List.getElem_mem h, rfl⟩
    have hw : wordB v.words[k].data.toList = true := List.all_eq_true.1 h2 _ hm
    unfold wordB at hw
    simp only [Bool.and_eq_true, decide_eq_true_eq] at hw
    have : v.words[k].size = v.words[k].data.toList.length := by simp
    unfold maxLen; omega

set_option maxHeartbeats 3200000 in
set_option maxRecDepth 100000 in
theorem back_any (w : World) (kind : Int) (s : ByteArray) (v u : Val) (x y : Option Addr) (c d : Nat) (hS : Std w) (hs : s.size ≤ maxLen) (h1 : RawOk w v x c) (h2 : RawOk w u y d) :
    Calls Tryd.prog 8 #[.int .i64 kind, .string s, argV v x c, argV u y d] w fun e w' => e = .returned (.bool true) ∧ Below w.heap.size w w' := by
  have HS := Lib.hid hS
  have H1 := Lib.hid h1
  have H2 := Lib.hid h2
  have HSS := Lib.hid hs
  have hsl := hs
  unfold maxLen at hsl
  have HVB : Hid (∀ p q, VB w ((w.alloc (.cells #[.int .i64 v.kind, .int .i64 v.int, .string v.text, .slice x v.words.length c] p)).alloc (.cells #[.int .i64 u.kind, .int .i64 u.int, .string u.text, .slice y u.words.length d] q)) w.heap.size (w.heap.size + 1) v u x y c d) := Lib.hid fun p q => by
    refine ⟨((Below.refl _ _).alloc (Nat.le_refl _) _).alloc (by simp) _, (box4_new w _ _ _ _ _).below ((Below.refl _ _).alloc (Nat.le_refl _) _), ?_⟩
    have := box4_new (w.alloc (.cells #[.int .i64 v.kind, .int .i64 v.int, .string v.text, .slice x v.words.length c] p)) (.int .i64 u.kind) (.int .i64 u.int) (.string u.text) (.slice y u.words.length d) q
    simpa using this
  clear hS hs h1 h2
  obtain ⟨k1, n1, t1, xs⟩ := v
  obtain ⟨k2, n2, t2, ys⟩ := u
  simp only at HVB
  unfold argV
  simp only
  go_enter Tryd.func8, Tryd.ntmps8
  go_wp2_with fail

  obtain ⟨B, hB⟩ : ∃ B, w.heap.size + 1 = B := ⟨_, rfl⟩
  obtain ⟨A, hA⟩ : ∃ A, w.heap.size = A := ⟨_, rfl⟩
  rw [hB] at HVB
  refine gen_world (fun W => VB w W w.heap.size B ⟨k1, n1, t1, xs⟩ ⟨k2, n2, t2, ys⟩ x y c d) (HVB.out _ _) ?_
  intro wa hva
  try rw [World.size_alloc]
  rw [hA] at hva
  try rw [hB]
  rw [hA]
  have HV0 := Lib.hid hva
  have HVD : Hid (VB w wa.drew A B ⟨k1, n1, t1, xs⟩ ⟨k2, n2, t2, ys⟩ x y c d) := Lib.hid (hva.below' (below_drewN wa 1))
  clear hva HVB
  obtain ⟨a0, a1, a2, a3, _, _, _, _⟩ := HV0.out.boxA
  obtain ⟨b0, b1, b2, b3, _, _, _, _⟩ := HV0.out.boxB
  simp only at a0 a1 a2 a3 b0 b1 b2 b3
  have HG1 : Hid (∀ w1, Below w.heap.size w w1 → Calls Tryd.prog 29 #[.agg #[.int .i64 k1, .int .i64 n1, .string t1, .slice x xs.length c]] w1 fun e w' => ∃ r, e = .returned (.int .i64 r) ∧ (0 ≤ r ∧ r ≤ 4294967294) ∧ (r ≤ 2147483647 → xs.length ≤ 2147483647) ∧ Below w1.heap.size w1 w') := Lib.hid fun w1 hb => weighs_any w1 _ x c (H1.out.below hb)
  have HG2 : Hid (∀ w1, Below w.heap.size w w1 → Calls Tryd.prog 29 #[.agg #[.int .i64 k2, .int .i64 n2, .string t2, .slice y ys.length d]] w1 fun e w' => ∃ r, e = .returned (.int .i64 r) ∧ (0 ≤ r ∧ r ≤ 4294967294) ∧ (r ≤ 2147483647 → ys.length ≤ 2147483647) ∧ Below w1.heap.size w1 w') := Lib.hid fun w1 hb => weighs_any w1 _ y d (H2.out.below hb)
  go_region_held3 (fun w' => w'.cell? ⟨A, 0, none⟩ = some (.int .i64 k1) ∧ w'.cell? ⟨A, 1, none⟩ = some (.int .i64 n1) ∧ w'.cell? ⟨A, 2, none⟩ = some (.string t1) ∧ w'.cell? ⟨A, 3, none⟩ = some (.slice x xs.length c) ∧ w'.cell? ⟨B, 0, none⟩ = some (.int .i64 k2) ∧ w'.cell? ⟨B, 1, none⟩ = some (.int .i64 n2) ∧ w'.cell? ⟨B, 2, none⟩ = some (.string t2) ∧ w'.cell? ⟨B, 3, none⟩ = some (.slice y ys.length d)) (first | exact ⟨a0, a1, a2, a3, b0, b1, b2, b3⟩ | exact ⟨z0, z1, z2, z3, z4, z5, z6, z7⟩ | exact ⟨u0, u1, u2, u3, u4, u5, u6, u7⟩)
    (first
      | (go_at_call 29; (with_reducible refine (HG1.out _ HVD.out.below).mono ?_); rintro e w1 ⟨r1, rfl, hr1, hl1, hb1⟩; have HV1 := Lib.hid (HVD.out.below' hb1); obtain ⟨z0, z1, z2, z3, _, _, _, _⟩ := HV1.out.boxA; obtain ⟨z4, z5, z6, z7, _, _, _, _⟩ := HV1.out.boxB)
      | (go_at_call 29; (with_reducible refine (HG2.out _ HV1.out.below).mono ?_); rintro e w2 ⟨r2, rfl, hr2, hl2, hb2⟩; have HV2 := Lib.hid (HV1.out.below' hb2); obtain ⟨u0, u1, u2, u3, _, _, _, _⟩ := HV2.out.boxA; obtain ⟨u4, u5, u6, u7, _, _, _, _⟩ := HV2.out.boxB)
      | (go_at_call 24; (with_reducible refine (adds_any _ _ _ (by omega) (by omega)).mono ?_); rintro e w3 ⟨r3, rfl, hr3, ha3, rfl⟩))
  by_cases hr : 2147483647 < r3
  · rw [decide_eq_true hr]
    go_wp2
    go_ret
    exact ⟨rfl, HV2.out.below⟩
  have hx1 : xs.length ≤ 2147483647 := hl1 (by omega)
  have hx2 : ys.length ≤ 2147483647 := hl2 (by omega)
  have HA1 := Lib.hid (H1.out.ok hx1)
  have HA2 := Lib.hid (H2.out.ok hx2)
  rw [decide_eq_false hr]
  clear hx1 hx2 hl1 hl2 HG1 HG2 HV0 HVD HV1 hb1 hb2 a0 a1 a2 a3 b0 b1 b2 b3 z0 z1 z2 z3 z4 z5 z6 z7 u0 u1 u2 u3 u4 u5 u6 u7 hr1 hr2 H1 H2 ha3 hr3 hr
  obtain ⟨T, hT⟩ : ∃ T, mkB (printR ⟨k1, n1, t1, xs⟩).1 = T := ⟨_, rfl⟩
  obtain ⟨E, hE⟩ : ∃ E, (printR ⟨k1, n1, t1, xs⟩).2 = E := ⟨_, rfl⟩
  obtain ⟨U, hU⟩ : ∃ U, mkB (printR ⟨k2, n2, t2, ys⟩).1 = U := ⟨_, rfl⟩
  obtain ⟨F, hF⟩ : ∃ F, (printR ⟨k2, n2, t2, ys⟩).2 = F := ⟨_, rfl⟩
  obtain ⟨R, hR⟩ : ∃ R, rightV ⟨k1, n1, t1, xs⟩ = R := ⟨_, rfl⟩
  have HPV : Hid (∀ w1, Below w.heap.size w w1 → Calls Tryd.prog 32 #[.agg #[.int .i64 k1, .int .i64 n1, .string t1, .slice x xs.length c]] w1 fun e w' => e = .returned (.tuple #[.string T, .int .i64 E]) ∧ Below w1.heap.size w1 w') := Lib.hid fun w1 hb => by
    have := print_any w1 ⟨k1, n1, t1, xs⟩ x c (HA1.out.below hb) (HS.out.below hb)
    rw [hT, hE] at this; exact this
  have HPU : Hid (∀ w1, Below w.heap.size w w1 → Calls Tryd.prog 32 #[.agg #[.int .i64 k2, .int .i64 n2, .string t2, .slice y ys.length d]] w1 fun e w' => e = .returned (.tuple #[.string U, .int .i64 F]) ∧ Below w1.heap.size w1 w') := Lib.hid fun w1 hb => by
    have := print_any w1 ⟨k2, n2, t2, ys⟩ y d (HA2.out.below hb) (HS.out.below hb)
    rw [hU, hF] at this; exact this
  have HRV : Hid (∀ w1, Below w.heap.size w w1 → Calls Tryd.prog 31 #[.agg #[.int .i64 k1, .int .i64 n1, .string t1, .slice x xs.length c]] w1 fun e w' => e = .returned (.bool R) ∧ Below w1.heap.size w1 w') := Lib.hid fun w1 hb => by
    have := right_any w1 ⟨k1, n1, t1, xs⟩ x c (HA1.out.below hb) (HS.out.below hb).tab
    rw [hR] at this; exact this
  have HPS : Hid (∀ k s w1, s.size ≤ maxLen → Below w.heap.size w w1 → Calls Tryd.prog 25 #[.int .i64 k, .string s] w1 (ParseRes w1 (parseV k s))) := Lib.hid fun k s w1 hs hb =>
    parse_any k s w1 (HS.out.below hb).tab (HS.out.below hb).units (HS.out.below hb).maxI hs
  have HT := Lib.hid hT
  have HE := Lib.hid hE
  have HU := Lib.hid hU
  have HF := Lib.hid hF
  have HR := Lib.hid hR
  clear hT hE hU hF hR
  go_wp2_with fail
  refine (awake_any _ (HS.out.below HV2.out.below)).mono ?_
  rintro e w3 ⟨rfl, hb3⟩
  have HV3 := Lib.hid (HV2.out.below' hb3)
  clear hb3 HV2
  obtain ⟨a0, a1, a2, a3, _, _, _, _⟩ := HV3.out.boxA
  simp only at a0 a1 a2 a3
  go_wp2_with fail
  refine (HPV.out _ HV3.out.below).mono ?_
  rintro e w4 ⟨rfl, hb4⟩
  have HV4 := Lib.hid (HV3.out.below' hb4)
  clear hb4 HV3 HPV a0 a1 a2 a3
  obtain ⟨b0, b1, b2, b3, _, _, _, _⟩ := HV4.out.boxB
  simp only at b0 b1 b2 b3
  go_wp2_with fail
  refine (HPU.out _ HV4.out.below).mono ?_
  rintro e w5 ⟨rfl, hb5⟩
  have HV5 := Lib.hid (HV4.out.below' hb5)
  clear hb5 HV4 HPU b0 b1 b2 b3
  obtain ⟨a0, a1, a2, a3, _, _, _, _⟩ := HV5.out.boxA
  simp only at a0 a1 a2 a3
  go_wp2_with fail
  refine (HRV.out _ HV5.out.below).mono ?_
  rintro e w6 ⟨rfl, hb6⟩
  have HV6 := Lib.hid (HV5.out.below' hb6)
  clear hb6 HV5 HRV a0 a1 a2 a3
  cases R with
  | false =>
    have hE1 : E = 1 := by rw [← HE.out]; unfold printR; rw [HR.out]; rfl
    subst hE1
    have HVT := HV6
    clear HV6 HA1 HA2 HT HE HU HF HR
    obtain ⟨G, hG⟩ : ∃ G, (parseV kind s).2 = G := ⟨_, rfl⟩
    obtain ⟨⟨kX, nX, tX, lX⟩, hX⟩ : ∃ X, (parseV kind s).1 = X := ⟨_, rfl⟩
    have hXG : parseV kind s = (⟨kX, nX, tX, lX⟩, G) := Prod.ext hX hG
    go_wp2_with fail
    refine (HPS.out kind s _ HSS.out HVT.out.below).mono ?_
    rintro e w8 ⟨hb8, x8, c8, rfl, hO8⟩
    rw [hXG] at hO8 ⊢
    simp only at hO8 ⊢
    have HB8 := Lib.hid (HVT.out.below.trans (hb8.mono HVT.out.below.size))
    clear HVT hb8
    by_cases hG0 : G = 0
    · subst hG0
      obtain ⟨hXr, hXk, hXe⟩ := read_right hG
      rw [hX] at hXr hXk hXe
      simp only at hXk
      subst hXk
      obtain ⟨q1, q2, q3⟩ := right_arg hXr
      have HAX : Hid (ArgOk w8 ⟨kX, nX, tX, lX⟩ x8 c8) := Lib.hid (hO8.arg q1 q2 q3)
      obtain ⟨P, hP⟩ : ∃ P, mkB (printV ⟨kX, nX, tX, lX⟩) = P := ⟨_, rfl⟩
      have HPsz : Hid (P.size ≤ maxLen) := Lib.hid (by rw [← hP, mkB_size]; have := print_len hXr; unfold maxLen; omega)
      have HBK : Hid (parseV kX P = (⟨kX, nX, tX, lX⟩, 0)) := Lib.hid (by rw [← hP]; exact back_read ⟨kX, nX, tX, lX⟩ hXr)
      have HXE : Hid ((kX = 2 ∨ kX = 5 ∨ kX = 6) → P = s) := Lib.hid fun hk => by rw [← hP, hXe hk, mkB_self]
      have HXR := Lib.hid hXr
      have HPP : Hid (∀ w1 z cz, ArgOk w1 ⟨kX, nX, tX, lX⟩ z cz → Below w.heap.size w w1 → Calls Tryd.prog 32 #[.agg #[.int .i64 kX, .int .i64 nX, .string tX, .slice z lX.length cz]] w1 fun e w' => e = .returned (.tuple #[.string P, .int .i64 0]) ∧ Below w1.heap.size w1 w') := Lib.hid fun w1 z cz ha hb => by
        have := print_any w1 ⟨kX, nX, tX, lX⟩ z cz ha (HS.out.below hb)
        rw [show printR ⟨kX, nX, tX, lX⟩ = (printV ⟨kX, nX, tX, lX⟩, 0) by unfold printR; rw [HXR.out, if_pos rfl]] at this
        simp only at this
        rw [hP] at this; exact this
      have HPR : Hid (∀ w1 z cz, ArgOk w1 ⟨kX, nX, tX, lX⟩ z cz → Below w.heap.size w w1 → Calls Tryd.prog 31 #[.agg #[.int .i64 kX, .int .i64 nX, .string tX, .slice z lX.length cz]] w1 fun e w' => e = .returned (.bool true) ∧ Below w1.heap.size w1 w') := Lib.hid fun w1 z cz ha hb => by
        have := right_any w1 ⟨kX, nX, tX, lX⟩ z cz ha (HS.out.below hb).tab
        rw [HXR.out] at this; exact this
      have HPE : Hid (∀ w1 z cz y cy, ArgOk w1 ⟨kX, nX, tX, lX⟩ z cz → ArgOk w1 ⟨kX, nX, tX, lX⟩ y cy → Calls Tryd.prog 33 #[.agg #[.int .i64 kX, .int .i64 nX, .string tX, .slice z lX.length cz], .agg #[.int .i64 kX, .int .i64 nX, .string tX, .slice y lX.length cy]] w1 fun e w' => e = .returned (.bool true) ∧ Below w1.heap.size w1 w') := Lib.hid fun w1 z cz y cy ha hb => by
        have := same_any w1 ⟨kX, nX, tX, lX⟩ ⟨kX, nX, tX, lX⟩ z y cz cy ha hb
        rw [same_self] at this; exact this
      clear hG hX hXG hO8 hXr hXe q1 q2 q3 hP
      have HX8 : Hid (∀ t, XB w (w8.alloc (.cells #[.int .i64 kX, .int .i64 nX, .string tX, .slice x8 lX.length c8] t)) w8.heap.size ⟨kX, nX, tX, lX⟩ x8 c8) := Lib.hid fun t => by
        have hal : Below w8.heap.size w8 (w8.alloc (.cells #[.int .i64 kX, .int .i64 nX, .string tX, .slice x8 lX.length c8] t)) := (Below.refl _ _).alloc (Nat.le_refl _) _
        exact ⟨HB8.out.trans (hal.mono HB8.out.size), box4_new w8 _ _ _ _ _, HAX.out.below hal⟩
      obtain ⟨X, hXb⟩ : ∃ X, w8.heap.size = X := ⟨_, rfl⟩
      go_wp2_with fail
      refine (HPR.out _ x8 c8 (HX8.out _).arg (HX8.out _).below).mono ?_
      rintro e w9 ⟨rfl, hb9⟩
      have HX9 := Lib.hid ((HX8.out _).below' hb9)
      rw [hXb] at HX9
      try rw [hXb]
      clear hb9 HX8 HB8 HAX hXb HPR
      obtain ⟨a0, a1, a2, a3, _, _, _, _⟩ := HX9.out.box
      simp only at a0 a1 a2 a3
      go_wp2_with fail
      refine (HPP.out _ x8 c8 HX9.out.arg HX9.out.below).mono ?_
      rintro e w10 ⟨rfl, hb10⟩
      have HX10 := Lib.hid (HX9.out.below' hb10)
      clear hb10 HX9 a0 a1 a2 a3
      go_wp2_with fail
      refine (HPS.out kX P _ HPsz.out HX10.out.below).mono ?_
      rintro e w11 ⟨hb11, x11, c11, rfl, hO11⟩
      rw [HBK.out] at hO11 ⊢
      simp only at hO11 ⊢
      obtain ⟨q1, q2, q3⟩ := right_arg HXR.out
      have HAY : Hid (ArgOk w11 ⟨kX, nX, tX, lX⟩ x11 c11) := Lib.hid (hO11.arg q1 q2 q3)
      have HX11 := Lib.hid (HX10.out.below' hb11)
      have HXY : Hid (∀ t, XB w (w11.alloc (.cells #[.int .i64 kX, .int .i64 nX, .string tX, .slice x11 lX.length c11] t)) X ⟨kX, nX, tX, lX⟩ x8 c8 ∧ XB w (w11.alloc (.cells #[.int .i64 kX, .int .i64 nX, .string tX, .slice x11 lX.length c11] t)) w11.heap.size ⟨kX, nX, tX, lX⟩ x11 c11) := Lib.hid fun t => by
        have hal : Below w11.heap.size w11 (w11.alloc (.cells #[.int .i64 kX, .int .i64 nX, .string tX, .slice x11 lX.length c11] t)) := (Below.refl _ _).alloc (Nat.le_refl _) _
        exact ⟨HX11.out.below' hal, HX11.out.below.trans (hal.mono HX11.out.below.size), box4_new w11 _ _ _ _ _, HAY.out.below hal⟩
      clear hb11 hO11 q1 q2 q3 HX10 HBK HPsz HX11 HAY
      obtain ⟨Y, hY⟩ : ∃ Y, w11.heap.size = Y := ⟨_, rfl⟩
      go_wp2_with fail
      refine (HPP.out _ x11 c11 (HXY.out _).2.arg (HXY.out _).2.below).mono ?_
      rintro e w12 ⟨rfl, hb12⟩
      have HX12 := Lib.hid ((HXY.out _).1.below' hb12)
      have HY12 := Lib.hid ((HXY.out _).2.below' hb12)
      rw [hY] at HY12
      try rw [hY]
      clear hb12 HXY hY
      obtain ⟨a0, a1, a2, a3, _, _, _, _⟩ := HX12.out.box
      obtain ⟨b0, b1, b2, b3, _, _, _, _⟩ := HY12.out.box
      simp only at a0 a1 a2 a3 b0 b1 b2 b3
      go_wp2_with fail
      refine (HPE.out _ x8 c8 x11 c11 HX12.out.arg HY12.out.arg).mono ?_
      rintro e w13 ⟨rfl, hb13⟩
      have HX13 := Lib.hid (HX12.out.below' hb13)
      clear hb13 HX12 HY12 a0 a1 a2 a3 b0 b1 b2 b3 HPE HPP HPS HXR
      obtain ⟨a0, a1, a2, a3, _, _, _, _⟩ := HX13.out.box
      simp only at a0 a1 a2 a3
      by_cases g1 : kX = 2
      · obtain rfl := HXE.out (Or.inl g1)
        have d1 : (kX != 2) = false := ne_false g1
        clear g1
        go_wp2
        go_ret
        exact ⟨rfl, HX13.out.below⟩
      have d1 : (kX != 2) = true := ne_true g1
      by_cases g2 : kX = 5
      · obtain rfl := HXE.out (Or.inr (Or.inl g2))
        have d2 : (kX != 5) = false := ne_false g2
        clear g1 g2
        go_wp2
        go_ret
        exact ⟨rfl, HX13.out.below⟩
      have d2 : (kX != 5) = true := ne_true g2
      by_cases g3 : kX = 6
      · obtain rfl := HXE.out (Or.inr (Or.inr g3))
        have d3 : (kX != 6) = false := ne_false g3
        clear g1 g2 g3
        go_wp2
        go_ret
        exact ⟨rfl, HX13.out.below⟩
      have d3 : (kX != 6) = true := ne_true g3
      clear g1 g2 g3
      go_wp2
      go_ret
      exact ⟨rfl, HX13.out.below⟩
    · have dG : (G != 0) = true := ne_true hG0
      have HBW : Hid (∀ o, Below w.heap.size w (w8.alloc o)) := Lib.hid fun o => HB8.out.alloc HB8.out.size o
      clear hG0 hG hX hXG hO8
      go_wp2
      go_ret
      exact ⟨rfl, by first | exact HBW.out _ | exact HB8.out⟩
  | true =>
    have hpr : printR ⟨k1, n1, t1, xs⟩ = (printV ⟨k1, n1, t1, xs⟩, 0) := by unfold printR; rw [HR.out, if_pos rfl]
    have hE0 : E = 0 := by rw [← HE.out, hpr]
    subst hE0
    have hTv : mkB (printV ⟨k1, n1, t1, xs⟩) = T := by rw [← HT.out, hpr]
    have HTV := Lib.hid hTv
    have HTS : Hid (T.size ≤ maxLen) := Lib.hid (by rw [← hTv, mkB_size]; have := print_len HR.out; unfold maxLen; omega)
    have HTB : Hid (parseV k1 T = (⟨k1, n1, t1, xs⟩, 0)) := Lib.hid (by rw [← hTv]; exact back_read ⟨k1, n1, t1, xs⟩ HR.out)
    clear hpr hTv HE HT
    obtain ⟨a0, a1, a2, a3, _, _, _, _⟩ := HV6.out.boxA
    obtain ⟨b0, b1, b2, b3, _, _, _, _⟩ := HV6.out.boxB
    simp only at a0 a1 a2 a3 b0 b1 b2 b3
    go_wp2_with fail
    refine (HPS.out k1 T _ HTS.out HV6.out.below).mono ?_
    rintro e w7 ⟨hb7, x7, c7, rfl, hO7⟩
    rw [HTB.out] at hO7 ⊢
    simp only at hO7 ⊢
    obtain ⟨q1, q2, q3⟩ := right_arg HR.out
    have HA7 : Hid (ArgOk w7 ⟨k1, n1, t1, xs⟩ x7 c7) := Lib.hid (hO7.arg q1 q2 q3)
    have HV7 := Lib.hid (HV6.out.below' hb7)
    have hAl : A < w7.heap.size := HV7.out.boxA.lt
    have hal : ∀ o, Below w7.heap.size w7 (w7.alloc o) := fun o => (Below.refl _ _).alloc (Nat.le_refl _) o
    have HVO : Hid (∀ o, VB w (w7.alloc o) A B ⟨k1, n1, t1, xs⟩ ⟨k2, n2, t2, ys⟩ x y c d) := Lib.hid fun o => HV7.out.below' (hal o)
    have HSM : Hid (∀ o, Calls Tryd.prog 33 #[.agg #[.int .i64 k1, .int .i64 n1, .string t1, .slice x7 xs.length c7], .agg #[.int .i64 k1, .int .i64 n1, .string t1, .slice x xs.length c]] (w7.alloc o) fun e w' => e = .returned (.bool true) ∧ Below (w7.alloc o).heap.size (w7.alloc o) w') := Lib.hid fun o => by
      have := same_any (w7.alloc o) ⟨k1, n1, t1, xs⟩ ⟨k1, n1, t1, xs⟩ x7 x c7 c (HA7.out.below (hal o)) (HA1.out.below (HVO.out o).below)
      rw [same_self] at this; exact this
    clear hb7 hO7 q1 q2 q3 HV6 a0 a1 a2 a3 b0 b1 b2 b3 hal HA7
    obtain ⟨a0, a1, a2, a3, _, _, _, _⟩ := HV7.out.boxA
    simp only at a0 a1 a2 a3
    go_wp2_with fail
    refine (HSM.out _).mono ?_
    rintro e w8 ⟨rfl, hb8⟩
    have HV8 := Lib.hid ((HVO.out _).below' hb8)
    clear hb8 HV7 HVO HSM a0 a1 a2 a3 hAl
    obtain ⟨a0, a1, a2, a3, _, _, _, _⟩ := HV8.out.boxA
    obtain ⟨b0, b1, b2, b3, _, _, _, _⟩ := HV8.out.boxB
    simp only at a0 a1 a2 a3 b0 b1 b2 b3
    cases hR2 : rightV ⟨k2, n2, t2, ys⟩ with
    | false =>
      have hF1 : F = 1 := by rw [← HF.out]; unfold printR; rw [hR2]; rfl
      subst hF1
      have HVT := HV8
      clear HV8 HF HU hR2 HTV HTS HTB HR HA1 HA2
      obtain ⟨G, hG⟩ : ∃ G, (parseV kind s).2 = G := ⟨_, rfl⟩
      obtain ⟨⟨kX, nX, tX, lX⟩, hX⟩ : ∃ X, (parseV kind s).1 = X := ⟨_, rfl⟩
      have hXG : parseV kind s = (⟨kX, nX, tX, lX⟩, G) := Prod.ext hX hG
      go_wp2_with fail
      refine (HPS.out kind s _ HSS.out HVT.out.below).mono ?_
      rintro e w8 ⟨hb8, x8, c8, rfl, hO8⟩
      rw [hXG] at hO8 ⊢
      simp only at hO8 ⊢
      have HB8 := Lib.hid (HVT.out.below.trans (hb8.mono HVT.out.below.size))
      clear HVT hb8
      by_cases hG0 : G = 0
      · subst hG0
        obtain ⟨hXr, hXk, hXe⟩ := read_right hG
        rw [hX] at hXr hXk hXe
        simp only at hXk
        subst hXk
        obtain ⟨q1, q2, q3⟩ := right_arg hXr
        have HAX : Hid (ArgOk w8 ⟨kX, nX, tX, lX⟩ x8 c8) := Lib.hid (hO8.arg q1 q2 q3)
        obtain ⟨P, hP⟩ : ∃ P, mkB (printV ⟨kX, nX, tX, lX⟩) = P := ⟨_, rfl⟩
        have HPsz : Hid (P.size ≤ maxLen) := Lib.hid (by rw [← hP, mkB_size]; have := print_len hXr; unfold maxLen; omega)
        have HBK : Hid (parseV kX P = (⟨kX, nX, tX, lX⟩, 0)) := Lib.hid (by rw [← hP]; exact back_read ⟨kX, nX, tX, lX⟩ hXr)
        have HXE : Hid ((kX = 2 ∨ kX = 5 ∨ kX = 6) → P = s) := Lib.hid fun hk => by rw [← hP, hXe hk, mkB_self]
        have HXR := Lib.hid hXr
        have HPP : Hid (∀ w1 z cz, ArgOk w1 ⟨kX, nX, tX, lX⟩ z cz → Below w.heap.size w w1 → Calls Tryd.prog 32 #[.agg #[.int .i64 kX, .int .i64 nX, .string tX, .slice z lX.length cz]] w1 fun e w' => e = .returned (.tuple #[.string P, .int .i64 0]) ∧ Below w1.heap.size w1 w') := Lib.hid fun w1 z cz ha hb => by
          have := print_any w1 ⟨kX, nX, tX, lX⟩ z cz ha (HS.out.below hb)
          rw [show printR ⟨kX, nX, tX, lX⟩ = (printV ⟨kX, nX, tX, lX⟩, 0) by unfold printR; rw [HXR.out, if_pos rfl]] at this
          simp only at this
          rw [hP] at this; exact this
        have HPR : Hid (∀ w1 z cz, ArgOk w1 ⟨kX, nX, tX, lX⟩ z cz → Below w.heap.size w w1 → Calls Tryd.prog 31 #[.agg #[.int .i64 kX, .int .i64 nX, .string tX, .slice z lX.length cz]] w1 fun e w' => e = .returned (.bool true) ∧ Below w1.heap.size w1 w') := Lib.hid fun w1 z cz ha hb => by
          have := right_any w1 ⟨kX, nX, tX, lX⟩ z cz ha (HS.out.below hb).tab
          rw [HXR.out] at this; exact this
        have HPE : Hid (∀ w1 z cz y cy, ArgOk w1 ⟨kX, nX, tX, lX⟩ z cz → ArgOk w1 ⟨kX, nX, tX, lX⟩ y cy → Calls Tryd.prog 33 #[.agg #[.int .i64 kX, .int .i64 nX, .string tX, .slice z lX.length cz], .agg #[.int .i64 kX, .int .i64 nX, .string tX, .slice y lX.length cy]] w1 fun e w' => e = .returned (.bool true) ∧ Below w1.heap.size w1 w') := Lib.hid fun w1 z cz y cy ha hb => by
          have := same_any w1 ⟨kX, nX, tX, lX⟩ ⟨kX, nX, tX, lX⟩ z y cz cy ha hb
          rw [same_self] at this; exact this
        clear hG hX hXG hO8 hXr hXe q1 q2 q3 hP
        have HX8 : Hid (∀ t, XB w (w8.alloc (.cells #[.int .i64 kX, .int .i64 nX, .string tX, .slice x8 lX.length c8] t)) w8.heap.size ⟨kX, nX, tX, lX⟩ x8 c8) := Lib.hid fun t => by
          have hal : Below w8.heap.size w8 (w8.alloc (.cells #[.int .i64 kX, .int .i64 nX, .string tX, .slice x8 lX.length c8] t)) := (Below.refl _ _).alloc (Nat.le_refl _) _
          exact ⟨HB8.out.trans (hal.mono HB8.out.size), box4_new w8 _ _ _ _ _, HAX.out.below hal⟩
        obtain ⟨X, hXb⟩ : ∃ X, w8.heap.size = X := ⟨_, rfl⟩
        go_wp2_with fail
        refine (HPR.out _ x8 c8 (HX8.out _).arg (HX8.out _).below).mono ?_
        rintro e w9 ⟨rfl, hb9⟩
        have HX9 := Lib.hid ((HX8.out _).below' hb9)
        rw [hXb] at HX9
        try rw [hXb]
        clear hb9 HX8 HB8 HAX hXb HPR
        obtain ⟨a0, a1, a2, a3, _, _, _, _⟩ := HX9.out.box
        simp only at a0 a1 a2 a3
        go_wp2_with fail
        refine (HPP.out _ x8 c8 HX9.out.arg HX9.out.below).mono ?_
        rintro e w10 ⟨rfl, hb10⟩
        have HX10 := Lib.hid (HX9.out.below' hb10)
        clear hb10 HX9 a0 a1 a2 a3
        go_wp2_with fail
        refine (HPS.out kX P _ HPsz.out HX10.out.below).mono ?_
        rintro e w11 ⟨hb11, x11, c11, rfl, hO11⟩
        rw [HBK.out] at hO11 ⊢
        simp only at hO11 ⊢
        obtain ⟨q1, q2, q3⟩ := right_arg HXR.out
        have HAY : Hid (ArgOk w11 ⟨kX, nX, tX, lX⟩ x11 c11) := Lib.hid (hO11.arg q1 q2 q3)
        have HX11 := Lib.hid (HX10.out.below' hb11)
        have HXY : Hid (∀ t, XB w (w11.alloc (.cells #[.int .i64 kX, .int .i64 nX, .string tX, .slice x11 lX.length c11] t)) X ⟨kX, nX, tX, lX⟩ x8 c8 ∧ XB w (w11.alloc (.cells #[.int .i64 kX, .int .i64 nX, .string tX, .slice x11 lX.length c11] t)) w11.heap.size ⟨kX, nX, tX, lX⟩ x11 c11) := Lib.hid fun t => by
          have hal : Below w11.heap.size w11 (w11.alloc (.cells #[.int .i64 kX, .int .i64 nX, .string tX, .slice x11 lX.length c11] t)) := (Below.refl _ _).alloc (Nat.le_refl _) _
          exact ⟨HX11.out.below' hal, HX11.out.below.trans (hal.mono HX11.out.below.size), box4_new w11 _ _ _ _ _, HAY.out.below hal⟩
        clear hb11 hO11 q1 q2 q3 HX10 HBK HPsz HX11 HAY
        obtain ⟨Y, hY⟩ : ∃ Y, w11.heap.size = Y := ⟨_, rfl⟩
        go_wp2_with fail
        refine (HPP.out _ x11 c11 (HXY.out _).2.arg (HXY.out _).2.below).mono ?_
        rintro e w12 ⟨rfl, hb12⟩
        have HX12 := Lib.hid ((HXY.out _).1.below' hb12)
        have HY12 := Lib.hid ((HXY.out _).2.below' hb12)
        rw [hY] at HY12
        try rw [hY]
        clear hb12 HXY hY
        obtain ⟨a0, a1, a2, a3, _, _, _, _⟩ := HX12.out.box
        obtain ⟨b0, b1, b2, b3, _, _, _, _⟩ := HY12.out.box
        simp only at a0 a1 a2 a3 b0 b1 b2 b3
        go_wp2_with fail
        refine (HPE.out _ x8 c8 x11 c11 HX12.out.arg HY12.out.arg).mono ?_
        rintro e w13 ⟨rfl, hb13⟩
        have HX13 := Lib.hid (HX12.out.below' hb13)
        clear hb13 HX12 HY12 a0 a1 a2 a3 b0 b1 b2 b3 HPE HPP HPS HXR
        obtain ⟨a0, a1, a2, a3, _, _, _, _⟩ := HX13.out.box
        simp only at a0 a1 a2 a3
        by_cases g1 : kX = 2
        · obtain rfl := HXE.out (Or.inl g1)
          have d1 : (kX != 2) = false := ne_false g1
          clear g1
          go_wp2
          go_ret
          exact ⟨rfl, HX13.out.below⟩
        have d1 : (kX != 2) = true := ne_true g1
        by_cases g2 : kX = 5
        · obtain rfl := HXE.out (Or.inr (Or.inl g2))
          have d2 : (kX != 5) = false := ne_false g2
          clear g1 g2
          go_wp2
          go_ret
          exact ⟨rfl, HX13.out.below⟩
        have d2 : (kX != 5) = true := ne_true g2
        by_cases g3 : kX = 6
        · obtain rfl := HXE.out (Or.inr (Or.inr g3))
          have d3 : (kX != 6) = false := ne_false g3
          clear g1 g2 g3
          go_wp2
          go_ret
          exact ⟨rfl, HX13.out.below⟩
        have d3 : (kX != 6) = true := ne_true g3
        clear g1 g2 g3
        go_wp2
        go_ret
        exact ⟨rfl, HX13.out.below⟩
      · have dG : (G != 0) = true := ne_true hG0
        have HBW : Hid (∀ o, Below w.heap.size w (w8.alloc o)) := Lib.hid fun o => HB8.out.alloc HB8.out.size o
        clear hG0 hG hX hXG hO8
        go_wp2
        go_ret
        exact ⟨rfl, by first | exact HBW.out _ | exact HB8.out⟩
    | true =>
      have hpr : printR ⟨k2, n2, t2, ys⟩ = (printV ⟨k2, n2, t2, ys⟩, 0) := by unfold printR; rw [hR2, if_pos rfl]
      have hF0 : F = 0 := by rw [← HF.out, hpr]
      subst hF0
      have hUv : mkB (printV ⟨k2, n2, t2, ys⟩) = U := by rw [← HU.out, hpr]
      by_cases hk : k1 = k2
      · have dk : (k1 == k2) = true := beq_iff_eq.2 hk
        obtain ⟨D, hD⟩ : ∃ D, sameV ⟨k1, n1, t1, xs⟩ ⟨k2, n2, t2, ys⟩ = D := ⟨_, rfl⟩
        have hDT : (T.toList == U.toList) = D := by
          rw [← hD, print_one HR.out hR2 hk, ← HTV.out, ← hUv]
          by_cases h : printV ⟨k1, n1, t1, xs⟩ = printV ⟨k2, n2, t2, ys⟩
          · rw [decide_eq_true h, h]; simp
          · rw [decide_eq_false h]
            exact beq_eq_false_iff_ne.2 fun hh => h (by have := congrArg (fun b => b.data.toList) (toList_inj hh); simpa [mkB_data] using this)
        have HSM : Hid (Calls Tryd.prog 33 #[.agg #[.int .i64 k1, .int .i64 n1, .string t1, .slice x xs.length c], .agg #[.int .i64 k2, .int .i64 n2, .string t2, .slice y ys.length d]] w8 fun e w' => e = .returned (.bool D) ∧ Below w8.heap.size w8 w') := Lib.hid (by
          have := same_any w8 ⟨k1, n1, t1, xs⟩ ⟨k2, n2, t2, ys⟩ x y c d (HA1.out.below HV8.out.below) (HA2.out.below HV8.out.below)
          rw [hD] at this; exact this)
        clear hk hpr hUv hD HF HU hR2 HTV HTS HTB HR HA1 HA2
        cases D with
        | false =>
          go_wp2_with fail
          refine (HSM.out).mono ?_
          rintro e w9 ⟨rfl, hb9⟩
          have HVT := Lib.hid (HV8.out.below' hb9)
          clear hb9 HV8 HSM a0 a1 a2 a3 b0 b1 b2 b3
          obtain ⟨G, hG⟩ : ∃ G, (parseV kind s).2 = G := ⟨_, rfl⟩
          obtain ⟨⟨kX, nX, tX, lX⟩, hX⟩ : ∃ X, (parseV kind s).1 = X := ⟨_, rfl⟩
          have hXG : parseV kind s = (⟨kX, nX, tX, lX⟩, G) := Prod.ext hX hG
          go_wp2_with fail
          refine (HPS.out kind s _ HSS.out HVT.out.below).mono ?_
          rintro e w8 ⟨hb8, x8, c8, rfl, hO8⟩
          rw [hXG] at hO8 ⊢
          simp only at hO8 ⊢
          have HB8 := Lib.hid (HVT.out.below.trans (hb8.mono HVT.out.below.size))
          clear HVT hb8
          by_cases hG0 : G = 0
          · subst hG0
            obtain ⟨hXr, hXk, hXe⟩ := read_right hG
            rw [hX] at hXr hXk hXe
            simp only at hXk
            subst hXk
            obtain ⟨q1, q2, q3⟩ := right_arg hXr
            have HAX : Hid (ArgOk w8 ⟨kX, nX, tX, lX⟩ x8 c8) := Lib.hid (hO8.arg q1 q2 q3)
            obtain ⟨P, hP⟩ : ∃ P, mkB (printV ⟨kX, nX, tX, lX⟩) = P := ⟨_, rfl⟩
            have HPsz : Hid (P.size ≤ maxLen) := Lib.hid (by rw [← hP, mkB_size]; have := print_len hXr; unfold maxLen; omega)
            have HBK : Hid (parseV kX P = (⟨kX, nX, tX, lX⟩, 0)) := Lib.hid (by rw [← hP]; exact back_read ⟨kX, nX, tX, lX⟩ hXr)
            have HXE : Hid ((kX = 2 ∨ kX = 5 ∨ kX = 6) → P = s) := Lib.hid fun hk => by rw [← hP, hXe hk, mkB_self]
            have HXR := Lib.hid hXr
            have HPP : Hid (∀ w1 z cz, ArgOk w1 ⟨kX, nX, tX, lX⟩ z cz → Below w.heap.size w w1 → Calls Tryd.prog 32 #[.agg #[.int .i64 kX, .int .i64 nX, .string tX, .slice z lX.length cz]] w1 fun e w' => e = .returned (.tuple #[.string P, .int .i64 0]) ∧ Below w1.heap.size w1 w') := Lib.hid fun w1 z cz ha hb => by
              have := print_any w1 ⟨kX, nX, tX, lX⟩ z cz ha (HS.out.below hb)
              rw [show printR ⟨kX, nX, tX, lX⟩ = (printV ⟨kX, nX, tX, lX⟩, 0) by unfold printR; rw [HXR.out, if_pos rfl]] at this
              simp only at this
              rw [hP] at this; exact this
            have HPR : Hid (∀ w1 z cz, ArgOk w1 ⟨kX, nX, tX, lX⟩ z cz → Below w.heap.size w w1 → Calls Tryd.prog 31 #[.agg #[.int .i64 kX, .int .i64 nX, .string tX, .slice z lX.length cz]] w1 fun e w' => e = .returned (.bool true) ∧ Below w1.heap.size w1 w') := Lib.hid fun w1 z cz ha hb => by
              have := right_any w1 ⟨kX, nX, tX, lX⟩ z cz ha (HS.out.below hb).tab
              rw [HXR.out] at this; exact this
            have HPE : Hid (∀ w1 z cz y cy, ArgOk w1 ⟨kX, nX, tX, lX⟩ z cz → ArgOk w1 ⟨kX, nX, tX, lX⟩ y cy → Calls Tryd.prog 33 #[.agg #[.int .i64 kX, .int .i64 nX, .string tX, .slice z lX.length cz], .agg #[.int .i64 kX, .int .i64 nX, .string tX, .slice y lX.length cy]] w1 fun e w' => e = .returned (.bool true) ∧ Below w1.heap.size w1 w') := Lib.hid fun w1 z cz y cy ha hb => by
              have := same_any w1 ⟨kX, nX, tX, lX⟩ ⟨kX, nX, tX, lX⟩ z y cz cy ha hb
              rw [same_self] at this; exact this
            clear hG hX hXG hO8 hXr hXe q1 q2 q3 hP
            have HX8 : Hid (∀ t, XB w (w8.alloc (.cells #[.int .i64 kX, .int .i64 nX, .string tX, .slice x8 lX.length c8] t)) w8.heap.size ⟨kX, nX, tX, lX⟩ x8 c8) := Lib.hid fun t => by
              have hal : Below w8.heap.size w8 (w8.alloc (.cells #[.int .i64 kX, .int .i64 nX, .string tX, .slice x8 lX.length c8] t)) := (Below.refl _ _).alloc (Nat.le_refl _) _
              exact ⟨HB8.out.trans (hal.mono HB8.out.size), box4_new w8 _ _ _ _ _, HAX.out.below hal⟩
            obtain ⟨X, hXb⟩ : ∃ X, w8.heap.size = X := ⟨_, rfl⟩
            go_wp2_with fail
            refine (HPR.out _ x8 c8 (HX8.out _).arg (HX8.out _).below).mono ?_
            rintro e w9 ⟨rfl, hb9⟩
            have HX9 := Lib.hid ((HX8.out _).below' hb9)
            rw [hXb] at HX9
            try rw [hXb]
            clear hb9 HX8 HB8 HAX hXb HPR
            obtain ⟨a0, a1, a2, a3, _, _, _, _⟩ := HX9.out.box
            simp only at a0 a1 a2 a3
            go_wp2_with fail
            refine (HPP.out _ x8 c8 HX9.out.arg HX9.out.below).mono ?_
            rintro e w10 ⟨rfl, hb10⟩
            have HX10 := Lib.hid (HX9.out.below' hb10)
            clear hb10 HX9 a0 a1 a2 a3
            go_wp2_with fail
            refine (HPS.out kX P _ HPsz.out HX10.out.below).mono ?_
            rintro e w11 ⟨hb11, x11, c11, rfl, hO11⟩
            rw [HBK.out] at hO11 ⊢
            simp only at hO11 ⊢
            obtain ⟨q1, q2, q3⟩ := right_arg HXR.out
            have HAY : Hid (ArgOk w11 ⟨kX, nX, tX, lX⟩ x11 c11) := Lib.hid (hO11.arg q1 q2 q3)
            have HX11 := Lib.hid (HX10.out.below' hb11)
            have HXY : Hid (∀ t, XB w (w11.alloc (.cells #[.int .i64 kX, .int .i64 nX, .string tX, .slice x11 lX.length c11] t)) X ⟨kX, nX, tX, lX⟩ x8 c8 ∧ XB w (w11.alloc (.cells #[.int .i64 kX, .int .i64 nX, .string tX, .slice x11 lX.length c11] t)) w11.heap.size ⟨kX, nX, tX, lX⟩ x11 c11) := Lib.hid fun t => by
              have hal : Below w11.heap.size w11 (w11.alloc (.cells #[.int .i64 kX, .int .i64 nX, .string tX, .slice x11 lX.length c11] t)) := (Below.refl _ _).alloc (Nat.le_refl _) _
              exact ⟨HX11.out.below' hal, HX11.out.below.trans (hal.mono HX11.out.below.size), box4_new w11 _ _ _ _ _, HAY.out.below hal⟩
            clear hb11 hO11 q1 q2 q3 HX10 HBK HPsz HX11 HAY
            obtain ⟨Y, hY⟩ : ∃ Y, w11.heap.size = Y := ⟨_, rfl⟩
            go_wp2_with fail
            refine (HPP.out _ x11 c11 (HXY.out _).2.arg (HXY.out _).2.below).mono ?_
            rintro e w12 ⟨rfl, hb12⟩
            have HX12 := Lib.hid ((HXY.out _).1.below' hb12)
            have HY12 := Lib.hid ((HXY.out _).2.below' hb12)
            rw [hY] at HY12
            try rw [hY]
            clear hb12 HXY hY
            obtain ⟨a0, a1, a2, a3, _, _, _, _⟩ := HX12.out.box
            obtain ⟨b0, b1, b2, b3, _, _, _, _⟩ := HY12.out.box
            simp only at a0 a1 a2 a3 b0 b1 b2 b3
            go_wp2_with fail
            refine (HPE.out _ x8 c8 x11 c11 HX12.out.arg HY12.out.arg).mono ?_
            rintro e w13 ⟨rfl, hb13⟩
            have HX13 := Lib.hid (HX12.out.below' hb13)
            clear hb13 HX12 HY12 a0 a1 a2 a3 b0 b1 b2 b3 HPE HPP HPS HXR
            obtain ⟨a0, a1, a2, a3, _, _, _, _⟩ := HX13.out.box
            simp only at a0 a1 a2 a3
            by_cases g1 : kX = 2
            · obtain rfl := HXE.out (Or.inl g1)
              have d1 : (kX != 2) = false := ne_false g1
              clear g1
              go_wp2
              go_ret
              exact ⟨rfl, HX13.out.below⟩
            have d1 : (kX != 2) = true := ne_true g1
            by_cases g2 : kX = 5
            · obtain rfl := HXE.out (Or.inr (Or.inl g2))
              have d2 : (kX != 5) = false := ne_false g2
              clear g1 g2
              go_wp2
              go_ret
              exact ⟨rfl, HX13.out.below⟩
            have d2 : (kX != 5) = true := ne_true g2
            by_cases g3 : kX = 6
            · obtain rfl := HXE.out (Or.inr (Or.inr g3))
              have d3 : (kX != 6) = false := ne_false g3
              clear g1 g2 g3
              go_wp2
              go_ret
              exact ⟨rfl, HX13.out.below⟩
            have d3 : (kX != 6) = true := ne_true g3
            clear g1 g2 g3
            go_wp2
            go_ret
            exact ⟨rfl, HX13.out.below⟩
          · have dG : (G != 0) = true := ne_true hG0
            have HBW : Hid (∀ o, Below w.heap.size w (w8.alloc o)) := Lib.hid fun o => HB8.out.alloc HB8.out.size o
            clear hG0 hG hX hXG hO8
            go_wp2
            go_ret
            exact ⟨rfl, by first | exact HBW.out _ | exact HB8.out⟩
        | true =>
          go_wp2_with fail
          refine (HSM.out).mono ?_
          rintro e w9 ⟨rfl, hb9⟩
          have HVT := Lib.hid (HV8.out.below' hb9)
          clear hb9 HV8 HSM a0 a1 a2 a3 b0 b1 b2 b3
          obtain ⟨G, hG⟩ : ∃ G, (parseV kind s).2 = G := ⟨_, rfl⟩
          obtain ⟨⟨kX, nX, tX, lX⟩, hX⟩ : ∃ X, (parseV kind s).1 = X := ⟨_, rfl⟩
          have hXG : parseV kind s = (⟨kX, nX, tX, lX⟩, G) := Prod.ext hX hG
          go_wp2_with fail
          refine (HPS.out kind s _ HSS.out HVT.out.below).mono ?_
          rintro e w8 ⟨hb8, x8, c8, rfl, hO8⟩
          rw [hXG] at hO8 ⊢
          simp only at hO8 ⊢
          have HB8 := Lib.hid (HVT.out.below.trans (hb8.mono HVT.out.below.size))
          clear HVT hb8
          by_cases hG0 : G = 0
          · subst hG0
            obtain ⟨hXr, hXk, hXe⟩ := read_right hG
            rw [hX] at hXr hXk hXe
            simp only at hXk
            subst hXk
            obtain ⟨q1, q2, q3⟩ := right_arg hXr
            have HAX : Hid (ArgOk w8 ⟨kX, nX, tX, lX⟩ x8 c8) := Lib.hid (hO8.arg q1 q2 q3)
            obtain ⟨P, hP⟩ : ∃ P, mkB (printV ⟨kX, nX, tX, lX⟩) = P := ⟨_, rfl⟩
            have HPsz : Hid (P.size ≤ maxLen) := Lib.hid (by rw [← hP, mkB_size]; have := print_len hXr; unfold maxLen; omega)
            have HBK : Hid (parseV kX P = (⟨kX, nX, tX, lX⟩, 0)) := Lib.hid (by rw [← hP]; exact back_read ⟨kX, nX, tX, lX⟩ hXr)
            have HXE : Hid ((kX = 2 ∨ kX = 5 ∨ kX = 6) → P = s) := Lib.hid fun hk => by rw [← hP, hXe hk, mkB_self]
            have HXR := Lib.hid hXr
            have HPP : Hid (∀ w1 z cz, ArgOk w1 ⟨kX, nX, tX, lX⟩ z cz → Below w.heap.size w w1 → Calls Tryd.prog 32 #[.agg #[.int .i64 kX, .int .i64 nX, .string tX, .slice z lX.length cz]] w1 fun e w' => e = .returned (.tuple #[.string P, .int .i64 0]) ∧ Below w1.heap.size w1 w') := Lib.hid fun w1 z cz ha hb => by
              have := print_any w1 ⟨kX, nX, tX, lX⟩ z cz ha (HS.out.below hb)
              rw [show printR ⟨kX, nX, tX, lX⟩ = (printV ⟨kX, nX, tX, lX⟩, 0) by unfold printR; rw [HXR.out, if_pos rfl]] at this
              simp only at this
              rw [hP] at this; exact this
            have HPR : Hid (∀ w1 z cz, ArgOk w1 ⟨kX, nX, tX, lX⟩ z cz → Below w.heap.size w w1 → Calls Tryd.prog 31 #[.agg #[.int .i64 kX, .int .i64 nX, .string tX, .slice z lX.length cz]] w1 fun e w' => e = .returned (.bool true) ∧ Below w1.heap.size w1 w') := Lib.hid fun w1 z cz ha hb => by
              have := right_any w1 ⟨kX, nX, tX, lX⟩ z cz ha (HS.out.below hb).tab
              rw [HXR.out] at this; exact this
            have HPE : Hid (∀ w1 z cz y cy, ArgOk w1 ⟨kX, nX, tX, lX⟩ z cz → ArgOk w1 ⟨kX, nX, tX, lX⟩ y cy → Calls Tryd.prog 33 #[.agg #[.int .i64 kX, .int .i64 nX, .string tX, .slice z lX.length cz], .agg #[.int .i64 kX, .int .i64 nX, .string tX, .slice y lX.length cy]] w1 fun e w' => e = .returned (.bool true) ∧ Below w1.heap.size w1 w') := Lib.hid fun w1 z cz y cy ha hb => by
              have := same_any w1 ⟨kX, nX, tX, lX⟩ ⟨kX, nX, tX, lX⟩ z y cz cy ha hb
              rw [same_self] at this; exact this
            clear hG hX hXG hO8 hXr hXe q1 q2 q3 hP
            have HX8 : Hid (∀ t, XB w (w8.alloc (.cells #[.int .i64 kX, .int .i64 nX, .string tX, .slice x8 lX.length c8] t)) w8.heap.size ⟨kX, nX, tX, lX⟩ x8 c8) := Lib.hid fun t => by
              have hal : Below w8.heap.size w8 (w8.alloc (.cells #[.int .i64 kX, .int .i64 nX, .string tX, .slice x8 lX.length c8] t)) := (Below.refl _ _).alloc (Nat.le_refl _) _
              exact ⟨HB8.out.trans (hal.mono HB8.out.size), box4_new w8 _ _ _ _ _, HAX.out.below hal⟩
            obtain ⟨X, hXb⟩ : ∃ X, w8.heap.size = X := ⟨_, rfl⟩
            go_wp2_with fail
            refine (HPR.out _ x8 c8 (HX8.out _).arg (HX8.out _).below).mono ?_
            rintro e w9 ⟨rfl, hb9⟩
            have HX9 := Lib.hid ((HX8.out _).below' hb9)
            rw [hXb] at HX9
            try rw [hXb]
            clear hb9 HX8 HB8 HAX hXb HPR
            obtain ⟨a0, a1, a2, a3, _, _, _, _⟩ := HX9.out.box
            simp only at a0 a1 a2 a3
            go_wp2_with fail
            refine (HPP.out _ x8 c8 HX9.out.arg HX9.out.below).mono ?_
            rintro e w10 ⟨rfl, hb10⟩
            have HX10 := Lib.hid (HX9.out.below' hb10)
            clear hb10 HX9 a0 a1 a2 a3
            go_wp2_with fail
            refine (HPS.out kX P _ HPsz.out HX10.out.below).mono ?_
            rintro e w11 ⟨hb11, x11, c11, rfl, hO11⟩
            rw [HBK.out] at hO11 ⊢
            simp only at hO11 ⊢
            obtain ⟨q1, q2, q3⟩ := right_arg HXR.out
            have HAY : Hid (ArgOk w11 ⟨kX, nX, tX, lX⟩ x11 c11) := Lib.hid (hO11.arg q1 q2 q3)
            have HX11 := Lib.hid (HX10.out.below' hb11)
            have HXY : Hid (∀ t, XB w (w11.alloc (.cells #[.int .i64 kX, .int .i64 nX, .string tX, .slice x11 lX.length c11] t)) X ⟨kX, nX, tX, lX⟩ x8 c8 ∧ XB w (w11.alloc (.cells #[.int .i64 kX, .int .i64 nX, .string tX, .slice x11 lX.length c11] t)) w11.heap.size ⟨kX, nX, tX, lX⟩ x11 c11) := Lib.hid fun t => by
              have hal : Below w11.heap.size w11 (w11.alloc (.cells #[.int .i64 kX, .int .i64 nX, .string tX, .slice x11 lX.length c11] t)) := (Below.refl _ _).alloc (Nat.le_refl _) _
              exact ⟨HX11.out.below' hal, HX11.out.below.trans (hal.mono HX11.out.below.size), box4_new w11 _ _ _ _ _, HAY.out.below hal⟩
            clear hb11 hO11 q1 q2 q3 HX10 HBK HPsz HX11 HAY
            obtain ⟨Y, hY⟩ : ∃ Y, w11.heap.size = Y := ⟨_, rfl⟩
            go_wp2_with fail
            refine (HPP.out _ x11 c11 (HXY.out _).2.arg (HXY.out _).2.below).mono ?_
            rintro e w12 ⟨rfl, hb12⟩
            have HX12 := Lib.hid ((HXY.out _).1.below' hb12)
            have HY12 := Lib.hid ((HXY.out _).2.below' hb12)
            rw [hY] at HY12
            try rw [hY]
            clear hb12 HXY hY
            obtain ⟨a0, a1, a2, a3, _, _, _, _⟩ := HX12.out.box
            obtain ⟨b0, b1, b2, b3, _, _, _, _⟩ := HY12.out.box
            simp only at a0 a1 a2 a3 b0 b1 b2 b3
            go_wp2_with fail
            refine (HPE.out _ x8 c8 x11 c11 HX12.out.arg HY12.out.arg).mono ?_
            rintro e w13 ⟨rfl, hb13⟩
            have HX13 := Lib.hid (HX12.out.below' hb13)
            clear hb13 HX12 HY12 a0 a1 a2 a3 b0 b1 b2 b3 HPE HPP HPS HXR
            obtain ⟨a0, a1, a2, a3, _, _, _, _⟩ := HX13.out.box
            simp only at a0 a1 a2 a3
            by_cases g1 : kX = 2
            · obtain rfl := HXE.out (Or.inl g1)
              have d1 : (kX != 2) = false := ne_false g1
              clear g1
              go_wp2
              go_ret
              exact ⟨rfl, HX13.out.below⟩
            have d1 : (kX != 2) = true := ne_true g1
            by_cases g2 : kX = 5
            · obtain rfl := HXE.out (Or.inr (Or.inl g2))
              have d2 : (kX != 5) = false := ne_false g2
              clear g1 g2
              go_wp2
              go_ret
              exact ⟨rfl, HX13.out.below⟩
            have d2 : (kX != 5) = true := ne_true g2
            by_cases g3 : kX = 6
            · obtain rfl := HXE.out (Or.inr (Or.inr g3))
              have d3 : (kX != 6) = false := ne_false g3
              clear g1 g2 g3
              go_wp2
              go_ret
              exact ⟨rfl, HX13.out.below⟩
            have d3 : (kX != 6) = true := ne_true g3
            clear g1 g2 g3
            go_wp2
            go_ret
            exact ⟨rfl, HX13.out.below⟩
          · have dG : (G != 0) = true := ne_true hG0
            have HBW : Hid (∀ o, Below w.heap.size w (w8.alloc o)) := Lib.hid fun o => HB8.out.alloc HB8.out.size o
            clear hG0 hG hX hXG hO8
            go_wp2
            go_ret
            exact ⟨rfl, by first | exact HBW.out _ | exact HB8.out⟩
      · have dk : (k1 == k2) = false := beq_eq_false_iff_ne.2 hk
        have HVT := HV8
        clear HV8 hk hpr hUv HF HU hR2 HTV HTS HTB HR HA1 HA2
        obtain ⟨G, hG⟩ : ∃ G, (parseV kind s).2 = G := ⟨_, rfl⟩
        obtain ⟨⟨kX, nX, tX, lX⟩, hX⟩ : ∃ X, (parseV kind s).1 = X := ⟨_, rfl⟩
        have hXG : parseV kind s = (⟨kX, nX, tX, lX⟩, G) := Prod.ext hX hG
        go_wp2_with fail
        refine (HPS.out kind s _ HSS.out HVT.out.below).mono ?_
        rintro e w8 ⟨hb8, x8, c8, rfl, hO8⟩
        rw [hXG] at hO8 ⊢
        simp only at hO8 ⊢
        have HB8 := Lib.hid (HVT.out.below.trans (hb8.mono HVT.out.below.size))
        clear HVT hb8
        by_cases hG0 : G = 0
        · subst hG0
          obtain ⟨hXr, hXk, hXe⟩ := read_right hG
          rw [hX] at hXr hXk hXe
          simp only at hXk
          subst hXk
          obtain ⟨q1, q2, q3⟩ := right_arg hXr
          have HAX : Hid (ArgOk w8 ⟨kX, nX, tX, lX⟩ x8 c8) := Lib.hid (hO8.arg q1 q2 q3)
          obtain ⟨P, hP⟩ : ∃ P, mkB (printV ⟨kX, nX, tX, lX⟩) = P := ⟨_, rfl⟩
          have HPsz : Hid (P.size ≤ maxLen) := Lib.hid (by rw [← hP, mkB_size]; have := print_len hXr; unfold maxLen; omega)
          have HBK : Hid (parseV kX P = (⟨kX, nX, tX, lX⟩, 0)) := Lib.hid (by rw [← hP]; exact back_read ⟨kX, nX, tX, lX⟩ hXr)
          have HXE : Hid ((kX = 2 ∨ kX = 5 ∨ kX = 6) → P = s) := Lib.hid fun hk => by rw [← hP, hXe hk, mkB_self]
          have HXR := Lib.hid hXr
          have HPP : Hid (∀ w1 z cz, ArgOk w1 ⟨kX, nX, tX, lX⟩ z cz → Below w.heap.size w w1 → Calls Tryd.prog 32 #[.agg #[.int .i64 kX, .int .i64 nX, .string tX, .slice z lX.length cz]] w1 fun e w' => e = .returned (.tuple #[.string P, .int .i64 0]) ∧ Below w1.heap.size w1 w') := Lib.hid fun w1 z cz ha hb => by
            have := print_any w1 ⟨kX, nX, tX, lX⟩ z cz ha (HS.out.below hb)
            rw [show printR ⟨kX, nX, tX, lX⟩ = (printV ⟨kX, nX, tX, lX⟩, 0) by unfold printR; rw [HXR.out, if_pos rfl]] at this
            simp only at this
            rw [hP] at this; exact this
          have HPR : Hid (∀ w1 z cz, ArgOk w1 ⟨kX, nX, tX, lX⟩ z cz → Below w.heap.size w w1 → Calls Tryd.prog 31 #[.agg #[.int .i64 kX, .int .i64 nX, .string tX, .slice z lX.length cz]] w1 fun e w' => e = .returned (.bool true) ∧ Below w1.heap.size w1 w') := Lib.hid fun w1 z cz ha hb => by
            have := right_any w1 ⟨kX, nX, tX, lX⟩ z cz ha (HS.out.below hb).tab
            rw [HXR.out] at this; exact this
          have HPE : Hid (∀ w1 z cz y cy, ArgOk w1 ⟨kX, nX, tX, lX⟩ z cz → ArgOk w1 ⟨kX, nX, tX, lX⟩ y cy → Calls Tryd.prog 33 #[.agg #[.int .i64 kX, .int .i64 nX, .string tX, .slice z lX.length cz], .agg #[.int .i64 kX, .int .i64 nX, .string tX, .slice y lX.length cy]] w1 fun e w' => e = .returned (.bool true) ∧ Below w1.heap.size w1 w') := Lib.hid fun w1 z cz y cy ha hb => by
            have := same_any w1 ⟨kX, nX, tX, lX⟩ ⟨kX, nX, tX, lX⟩ z y cz cy ha hb
            rw [same_self] at this; exact this
          clear hG hX hXG hO8 hXr hXe q1 q2 q3 hP
          have HX8 : Hid (∀ t, XB w (w8.alloc (.cells #[.int .i64 kX, .int .i64 nX, .string tX, .slice x8 lX.length c8] t)) w8.heap.size ⟨kX, nX, tX, lX⟩ x8 c8) := Lib.hid fun t => by
            have hal : Below w8.heap.size w8 (w8.alloc (.cells #[.int .i64 kX, .int .i64 nX, .string tX, .slice x8 lX.length c8] t)) := (Below.refl _ _).alloc (Nat.le_refl _) _
            exact ⟨HB8.out.trans (hal.mono HB8.out.size), box4_new w8 _ _ _ _ _, HAX.out.below hal⟩
          obtain ⟨X, hXb⟩ : ∃ X, w8.heap.size = X := ⟨_, rfl⟩
          go_wp2_with fail
          refine (HPR.out _ x8 c8 (HX8.out _).arg (HX8.out _).below).mono ?_
          rintro e w9 ⟨rfl, hb9⟩
          have HX9 := Lib.hid ((HX8.out _).below' hb9)
          rw [hXb] at HX9
          try rw [hXb]
          clear hb9 HX8 HB8 HAX hXb HPR
          obtain ⟨a0, a1, a2, a3, _, _, _, _⟩ := HX9.out.box
          simp only at a0 a1 a2 a3
          go_wp2_with fail
          refine (HPP.out _ x8 c8 HX9.out.arg HX9.out.below).mono ?_
          rintro e w10 ⟨rfl, hb10⟩
          have HX10 := Lib.hid (HX9.out.below' hb10)
          clear hb10 HX9 a0 a1 a2 a3
          go_wp2_with fail
          refine (HPS.out kX P _ HPsz.out HX10.out.below).mono ?_
          rintro e w11 ⟨hb11, x11, c11, rfl, hO11⟩
          rw [HBK.out] at hO11 ⊢
          simp only at hO11 ⊢
          obtain ⟨q1, q2, q3⟩ := right_arg HXR.out
          have HAY : Hid (ArgOk w11 ⟨kX, nX, tX, lX⟩ x11 c11) := Lib.hid (hO11.arg q1 q2 q3)
          have HX11 := Lib.hid (HX10.out.below' hb11)
          have HXY : Hid (∀ t, XB w (w11.alloc (.cells #[.int .i64 kX, .int .i64 nX, .string tX, .slice x11 lX.length c11] t)) X ⟨kX, nX, tX, lX⟩ x8 c8 ∧ XB w (w11.alloc (.cells #[.int .i64 kX, .int .i64 nX, .string tX, .slice x11 lX.length c11] t)) w11.heap.size ⟨kX, nX, tX, lX⟩ x11 c11) := Lib.hid fun t => by
            have hal : Below w11.heap.size w11 (w11.alloc (.cells #[.int .i64 kX, .int .i64 nX, .string tX, .slice x11 lX.length c11] t)) := (Below.refl _ _).alloc (Nat.le_refl _) _
            exact ⟨HX11.out.below' hal, HX11.out.below.trans (hal.mono HX11.out.below.size), box4_new w11 _ _ _ _ _, HAY.out.below hal⟩
          clear hb11 hO11 q1 q2 q3 HX10 HBK HPsz HX11 HAY
          obtain ⟨Y, hY⟩ : ∃ Y, w11.heap.size = Y := ⟨_, rfl⟩
          go_wp2_with fail
          refine (HPP.out _ x11 c11 (HXY.out _).2.arg (HXY.out _).2.below).mono ?_
          rintro e w12 ⟨rfl, hb12⟩
          have HX12 := Lib.hid ((HXY.out _).1.below' hb12)
          have HY12 := Lib.hid ((HXY.out _).2.below' hb12)
          rw [hY] at HY12
          try rw [hY]
          clear hb12 HXY hY
          obtain ⟨a0, a1, a2, a3, _, _, _, _⟩ := HX12.out.box
          obtain ⟨b0, b1, b2, b3, _, _, _, _⟩ := HY12.out.box
          simp only at a0 a1 a2 a3 b0 b1 b2 b3
          go_wp2_with fail
          refine (HPE.out _ x8 c8 x11 c11 HX12.out.arg HY12.out.arg).mono ?_
          rintro e w13 ⟨rfl, hb13⟩
          have HX13 := Lib.hid (HX12.out.below' hb13)
          clear hb13 HX12 HY12 a0 a1 a2 a3 b0 b1 b2 b3 HPE HPP HPS HXR
          obtain ⟨a0, a1, a2, a3, _, _, _, _⟩ := HX13.out.box
          simp only at a0 a1 a2 a3
          by_cases g1 : kX = 2
          · obtain rfl := HXE.out (Or.inl g1)
            have d1 : (kX != 2) = false := ne_false g1
            clear g1
            go_wp2
            go_ret
            exact ⟨rfl, HX13.out.below⟩
          have d1 : (kX != 2) = true := ne_true g1
          by_cases g2 : kX = 5
          · obtain rfl := HXE.out (Or.inr (Or.inl g2))
            have d2 : (kX != 5) = false := ne_false g2
            clear g1 g2
            go_wp2
            go_ret
            exact ⟨rfl, HX13.out.below⟩
          have d2 : (kX != 5) = true := ne_true g2
          by_cases g3 : kX = 6
          · obtain rfl := HXE.out (Or.inr (Or.inr g3))
            have d3 : (kX != 6) = false := ne_false g3
            clear g1 g2 g3
            go_wp2
            go_ret
            exact ⟨rfl, HX13.out.below⟩
          have d3 : (kX != 6) = true := ne_true g3
          clear g1 g2 g3
          go_wp2
          go_ret
          exact ⟨rfl, HX13.out.below⟩
        · have dG : (G != 0) = true := ne_true hG0
          have HBW : Hid (∀ o, Below w.heap.size w (w8.alloc o)) := Lib.hid fun o => HB8.out.alloc HB8.out.size o
          clear hG0 hG hX hXG hO8
          go_wp2
          go_ret
          exact ⟨rfl, by first | exact HBW.out _ | exact HB8.out⟩
end Go.Proofs.YtgnbgligilnhkaaDoor
