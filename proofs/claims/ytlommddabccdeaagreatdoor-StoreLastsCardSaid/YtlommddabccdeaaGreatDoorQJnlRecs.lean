/-
  JnlOpen, JnlRecs.
-/
import Derived.Test.YtlommddabccdeaaGreatDoorQJnlRead
import Derived.Recover
import Derived.Defers
namespace Go.Proofs.YtlommddabccdeaaGreatDoor
open Go.ChangeShapes Go.WideShapes Go.ChangeAt Go.RowKit

theorem JnlAt.below {w w' : World} {J p : Nat} {h : HeadV} {q : Bool} (hJ : JnlAt w J p h q) (hb : Below w.heap.size w w') : JnlAt w' J p h q := (hb.block _ (lt_of_heap hJ)).trans hJ
set_option maxHeartbeats 800000 in
theorem jread_any (w : World) (J : Nat) (D : DskP) (d : DskV) (h : HeadV) (q : Bool) (hJ : JnlAt w J D.p h q) (hD : DskAt w D d) (hok : DskOk d) (hd : d.dead = false) (rs : List (List UInt8)) (hi : ImgOk d.ws h rs) :
  Calls Tryz.prog 57 #[.pointer (some ⟨J, 0, none⟩)] w fun e w' => ∃ v', e = .returned (.tuple #[v', .int .i64 0]) ∧ OwnS w.heap.size w' v' rs ∧ Below w.heap.size w w' := by
 have c2 := cell_at hJ (k := 2) rfl
 have c3 := cell_at hJ (k := 3) rfl
 have hA := areaN_le hok
 have HF : Hid (∀ W, Below w.heap.size w W → Calls Tryz.prog 84 #[.pointer (some ⟨J, 0, none⟩), .int .i64 h.area, .int .i64 h.used] W fun e w' => e = .returned (.tuple #[.string (bOf (rs.flatMap recL)), .int .i64 0]) ∧ Below W.heap.size W w') := Lib.hid fun W hW => by
  have := firstBytes_any W J D d h q (hJ.below hW) (hD.below hW) hok hd h.area h.used hi.area hi.used
  rw [hi.bytes] at this
  exact this
 have HR : Hid (∀ W, Calls Tryz.prog 85 #[.string (bOf (rs.flatMap recL))] W fun e w' => ∃ v', e = .returned (.tuple #[v', .bool true]) ∧ OwnS W.heap.size w' v' rs ∧ Below W.heap.size W w') := Lib.hid fun W => recordsIn_any W rs hi.lens (by have := hi.tot; have := hi.used; have e : arN d.ws = areaN d := rfl; omega)
 have HBD : Hid (Below w.heap.size w w.drew) := Lib.hid ⟨rfl, rfl, rfl, Nat.le_refl _, fun _ _ => rfl⟩
 have HKS : Hid (∀ W W', (W.cell? ⟨J, 2, none⟩ = some (.int .i64 h.area) ∧ W.cell? ⟨J, 3, none⟩ = some (.int .i64 h.used)) → Below W.heap.size W W' → (W'.cell? ⟨J, 2, none⟩ = some (.int .i64 h.area) ∧ W'.cell? ⟨J, 3, none⟩ = some (.int .i64 h.used))) := Lib.hid fun W W' hc hb => ⟨(hb.cell (p := ⟨J, 2, none⟩) (World.block_lt_of_cell? W _ hc.1)).trans hc.1, (hb.cell (p := ⟨J, 3, none⟩) (World.block_lt_of_cell? W _ hc.2)).trans hc.2⟩
 have HJD : Hid (w.drew.cell? ⟨J, 2, none⟩ = some (.int .i64 h.area) ∧ w.drew.cell? ⟨J, 3, none⟩ = some (.int .i64 h.used)) := Lib.hid ⟨c2, c3⟩
 clear hJ hD hok hd hi hA
 generalize bOf (rs.flatMap recL) = SB at *
 obtain ⟨gen, area, used⟩ := h
 simp only at *
 go_enter Tryz.func57, Tryz.ntmps57
 go_wp2
 go_region_held3 (fun W => W.cell? ⟨J, 2, none⟩ = some (.int .i64 area) ∧ W.cell? ⟨J, 3, none⟩ = some (.int .i64 used)) (first | exact KS.out | exact HJD.out) (first
  | (go_at_call 84; (with_reducible refine (HF.out _ HBD.out).mono ?_); rintro e w2 ⟨rfl, hb2⟩; have KS := Lib.hid (HKS.out _ _ HJD.out hb2); have HB2 := Lib.hid hb2; clear hb2; dsimp only)
  | fail)
 go_wp2_with (go_at_call 85; refine (HR.out _).mono ?_; rintro e w3 ⟨v3, rfl, ho3, hb3⟩; have H3 := Lib.hid (And.intro ho3 hb3); clear ho3 hb3)
 go_ret2
 have hbb := HBD.out.trans (HB2.out.mono HBD.out.size)
 refine ⟨_, rfl, ⟨?_⟩, hbb.trans (H3.out.2.mono hbb.size)⟩
 obtain ⟨h1, h2⟩ := H3.out.1.own
 refine ⟨h1, ?_⟩
 rcases h2 with h3 | ⟨g, cap, cur, h4, h5, h6⟩
 ·exact .inl h3
 ·exact .inr ⟨g, cap, cur, h4, Nat.le_trans hbb.size h5, h6⟩
theorem jroom_any (w : World) (J : Nat) (D : DskP) (d : DskV) (h : HeadV) (hJ : JnlAt w J D.p h false) (hD : DskAt w D d) (hok : DskOk d) (hd : d.dead = false) (n : Nat) (hn : n ≤ arN d.ws * 64) :
  Calls Tryz.prog 75 #[.pointer (some ⟨J, 0, none⟩), .int .i64 n] w fun e w' => e = .returned (.int .i64 (max (-1) (min ((arN d.ws * 64 : Nat) - (n : Int) - 2) 60000))) ∧ w = w' := by
 have HL := Lib.hid (lives_any w J D d h false hJ hD)
 rw [hd] at HL
 have HB := Lib.hid (areaBytes_any w J D d h false hJ hD hok)
 have HT : Hid (∀ W, Calls Tryz.prog 108 #[.string ⟨#[]⟩] W fun e w' => e = .returned (.int .i64 2) ∧ W = w') := Lib.hid fun W => takes_any W ⟨#[]⟩ (by decide)
 have hA := areaN_le hok
 have eA : arN d.ws = areaN d := rfl
 rw [eA] at hn ⊢
 clear hJ hD hok hd eA
 obtain ⟨A, hA2⟩ : ∃ A, areaN d * 64 = A := ⟨_, rfl⟩
 rw [hA2] at HB hn ⊢
 have hw1 : IntKind.i64.wrap ((A : Int) - n) = (A : Int) - n := IntWalk.i64_in _ (by omega)
 have hw2 : IntKind.i64.wrap ((A : Int) - n - 2) = (A : Int) - n - 2 := IntWalk.i64_in _ (by omega)
 clear hA hA2 hn
 go_enter Tryz.func75, Tryz.ntmps75
 go_wp2_with (first
  | (go_at_call 66; refine HL.out.mono ?_; rintro e w2 ⟨rfl, rfl⟩)
  | (go_at_call 56; refine HB.out.mono ?_; rintro e w2 ⟨rfl, rfl⟩)
  | (go_at_call 108; refine (HT.out _).mono ?_; rintro e w2 ⟨rfl, rfl⟩))
 go_ret
 exact ⟨rfl, rfl⟩
theorem jRoom_any (w : World) (J : Nat) (D : DskP) (d : DskV) (h : HeadV) (hJ : JnlAt w J D.p h false) (hD : DskAt w D d) (hok : DskOk d) (hd : d.dead = false) (hn : h.used ≤ arN d.ws * 64) :
  Calls Tryz.prog 49 #[.pointer (some ⟨J, 0, none⟩)] w fun e w' => e = .returned (.int .i64 (max (-1) (min ((arN d.ws * 64 : Nat) - (h.used : Int) - 2) 60000))) ∧ w = w' := by
 have HR := Lib.hid (jroom_any w J D d h hJ hD hok hd h.used hn)
 have c3 := cell_at hJ (k := 3) rfl
 clear hJ hD hok hd hn
 obtain ⟨gen, area, used⟩ := h
 simp only at *
 go_enter Tryz.func49, Tryz.ntmps49
 go_wp2_with (go_at_call 75; refine HR.out.mono ?_; rintro e w2 ⟨rfl, rfl⟩)
 go_ret
 exact ⟨rfl, rfl⟩
theorem jBare_any (w : World) (J : Nat) (D : DskP) (d : DskV) (h : HeadV) (hJ : JnlAt w J D.p h false) (hD : DskAt w D d) (hok : DskOk d) (hd : d.dead = false) :
  Calls Tryz.prog 51 #[.pointer (some ⟨J, 0, none⟩)] w fun e w' => e = .returned (.int .i64 (max (-1) (min ((arN d.ws * 64 : Nat) - ((0 : Nat) : Int) - 2) 60000))) ∧ w = w' := by
 have HR := Lib.hid (jroom_any w J D d h hJ hD hok hd 0 (Nat.zero_le _))
 clear hJ hD hok hd
 go_enter Tryz.func51, Tryz.ntmps51
 go_wp2_with (go_at_call 75; refine HR.out.mono ?_; rintro e w2 ⟨rfl, rfl⟩)
 go_ret
 exact ⟨rfl, rfl⟩
theorem mid_of {a b r : List UInt8} {m n : Nat} (ha : a.length = n) (hb : n + b.length = m) : ((a ++ (b ++ r)).take m).drop n = b := by
 have e : (a ++ (b ++ r)).take m = a ++ b := by
  rw [← List.append_assoc, List.take_append_of_le_length (by rw [List.length_append]; omega), List.take_of_length_le (by rw [List.length_append]; omega)]
 rw [e, ← ha, List.drop_left]
theorem headL_gen (h : HeadV) (hg : h.gen ≤ 4611686018427387904) : numL (((headL h).take 12).drop 4) = h.gen := by
 unfold headL padL
 simp only [List.append_assoc]
 rw [mid_of (by rfl) (by rw [numB_len])]
 exact numL_numB 8 _ (by omega)
theorem headL_area (h : HeadV) (ha : h.area < 2) : numL (((headL h).take 13).drop 12) = h.area := by
 unfold headL padL
 simp only [List.append_assoc]
 rw [← List.append_assoc, mid_of (by simp [numB_len]) (by rw [numB_len])]
 exact numL_numB 1 _ (by omega)
theorem headL_used (h : HeadV) (hu : h.used ≤ 1000000) : numL (((headL h).take 17).drop 13) = h.used := by
 unfold headL padL
 simp only [List.append_assoc]
 rw [← List.append_assoc, ← List.append_assoc, mid_of (by simp [numB_len]) (by rw [numB_len])]
 exact numL_numB 4 _ (by omega)
set_option maxHeartbeats 1600000 in
theorem jopen_any (w : World) (D : DskP) (d : DskV) (hD : DskAt w D d) (hok : DskOk d) (hd : d.dead = false) (h : HeadV) (rs : List (List UInt8)) (hi : ImgOk d.ws h rs) :
  Calls Tryz.prog 35 #[.pointer (some ⟨D.p, 0, none⟩)] w fun e w' => ∃ J, e = .returned (.tuple #[.pointer (some ⟨J, 0, none⟩), .int .i64 0]) ∧ JnlAt w' J D.p h false ∧ w.heap.size ≤ J ∧ Below w.heap.size w w' := by
 have hA := areaN_le hok
 have eA : arN d.ws = areaN d := rfl
 have hu := hi.used
 have h0 : d.ws[0]? = some (headL h) := by
  have hlt : 0 < d.ws.length := by have := hok.lo; omega
  have := hi.head
  simp only [List.getD, List.getElem?_eq_getElem hlt] at this
  rw [List.getElem?_eq_getElem hlt]
  exact congrArg some this
 have HRD := Lib.hid (dread_any w D d hD hok hd 0 (headL h) h0)
 have HHO : Hid (∀ W, Calls Tryz.prog 55 #[.string (bOf (headL h))] W fun e w' => e = .returned (.tuple #[hAgg h, .bool true]) ∧ Below W.heap.size W w') := Lib.hid fun W =>
  headOf_any W (bOf (headL h)) (by rw [bOf_size, headL_len]) h (by rw [bOf_list]; exact headL_gen h hi.gen) (by rw [bOf_list]; exact headL_area h hi.area) (by rw [bOf_list]; exact headL_used h (by omega)) hi.gen hi.area (by omega) true (beq_self_eq_true _)
 have HAB : Hid (∀ W J, Below w.heap.size w W → JnlAt W J D.p h false → Calls Tryz.prog 56 #[.pointer (some ⟨J, 0, none⟩)] W fun e w' => e = .returned (.int .i64 ((areaN d * 64 : Nat) : Int)) ∧ W = w') := Lib.hid fun W J hW hJ => areaBytes_any W J D d h false hJ (hD.below hW) hok
 have HRE : Hid (∀ W J, Below w.heap.size w W → JnlAt W J D.p h false → Calls Tryz.prog 57 #[.pointer (some ⟨J, 0, none⟩)] W fun e w' => ∃ v', e = .returned (.tuple #[v', .int .i64 0]) ∧ OwnS W.heap.size w' v' rs ∧ Below W.heap.size W w') := Lib.hid fun W J hW hJ => jread_any W J D d h false hJ (hD.below hW) hok hd rs hi
 have q1 : ¬ (h.used : Int) > ((areaN d * 64 : Nat) : Int) := by omega
 rw [str_bOf] at HRD
 clear hA eA hu h0 hD hok hd hi
 generalize ((areaN d * 64 : Nat) : Int) = AB at *
 generalize bOf (headL h) = HS at *
 unfold hAgg at HHO
 unfold JnlAt at *
 obtain ⟨gen, area, used⟩ := h
 simp only at *
 generalize (gen : Int) = G at *
 generalize (area : Int) = A at *
 generalize (used : Int) = U at *
 go_enter Tryz.func35, Tryz.ntmps35
 go_wp2_with (first
  | (go_at_call 54; refine HRD.out.mono ?_; rintro e w2 ⟨rfl, hb2⟩; have HB2 := Lib.hid hb2; clear hb2)
  | (go_at_call 55; refine (HHO.out _).mono ?_; rintro e w3 ⟨rfl, hb3⟩; have HB3 := Lib.hid (HB2.out.trans (hb3.mono HB2.out.size)); clear hb3))
 obtain ⟨W4, hW4⟩ : ∃ W4, (w3.alloc (Obj.cells #[Value.int IntKind.i64 G, Value.int IntKind.i64 A, Value.int IntKind.i64 U] 85)).alloc (Obj.cells #[Value.pointer (some ⟨D.p, 0, none⟩), Value.int IntKind.i64 G, Value.int IntKind.i64 A, Value.int IntKind.i64 U, Value.bool false] 87) = W4 := ⟨_, rfl⟩
 have HB4 : Hid (Below w.heap.size w W4.drew ∧ w.heap.size ≤ w3.heap.size + 1) := Lib.hid ⟨by
  rw [← hW4]
  exact ((HB3.out.alloc HB3.out.size _).alloc (by have := HB3.out.size; simp; omega) _).drew, Nat.le_succ_of_le HB3.out.size⟩
 have hJ : W4.heap[w3.heap.size + 1]? = some (.cells #[Value.pointer (some ⟨D.p, 0, none⟩), Value.int IntKind.i64 G, Value.int IntKind.i64 A, Value.int IntKind.i64 U, Value.bool false] 87 (0, 0)) := by
  rw [← hW4]
  have := heap_alloc_new (w3.alloc (Obj.cells #[Value.int IntKind.i64 G, Value.int IntKind.i64 A, Value.int IntKind.i64 U] 85)) (Obj.cells #[Value.pointer (some ⟨D.p, 0, none⟩), Value.int IntKind.i64 G, Value.int IntKind.i64 A, Value.int IntKind.i64 U, Value.bool false] 87)
  rw [World.size_alloc] at this
  exact this
 have cU : W4.cell? ⟨w3.heap.size, 2, none⟩ = some (.int .i64 U) := by
  rw [← hW4]
  refine cell_at (f := (0, 0)) (cs := #[Value.int IntKind.i64 G, Value.int IntKind.i64 A, Value.int IntKind.i64 U]) (t := 85) ?_ rfl
  rw [heap_alloc_old _ _ (by simp)]
  exact heap_alloc_new w3 _
 rw [hW4]
 have HJ4 : Hid (W4.drew.heap[w3.heap.size + 1]? = some (.cells #[Value.pointer (some ⟨D.p, 0, none⟩), Value.int IntKind.i64 G, Value.int IntKind.i64 A, Value.int IntKind.i64 U, Value.bool false] 87 (0, 0))) := Lib.hid hJ
 have HAB4 := Lib.hid (HAB.out W4.drew (w3.heap.size + 1) HB4.out.1 HJ4.out)
 have HRE4 := Lib.hid (HRE.out W4.drew (w3.heap.size + 1) HB4.out.1 HJ4.out)
 clear hW4 hJ
 generalize w3.heap.size + 1 = J at *
 generalize w3.heap.size = n3 at *
 go_region_held3 (fun W => W.cell? ⟨n3, 2, none⟩ = some (.int .i64 U)) (exact cU) (first
  | (go_at_call 56; (with_reducible refine HAB4.out.mono ?_); rintro e w5 ⟨rfl, rfl⟩; dsimp only)
  | fail)
 go_wp2_with (go_at_call 57; refine HRE4.out.mono ?_; rintro e w6 ⟨v6, rfl, ho6, hb6⟩; have H6 := Lib.hid hb6; clear ho6 hb6)
 go_ret2
 exact ⟨J, rfl, (H6.out.block _ (lt_of_heap HJ4.out)).trans HJ4.out, HB4.out.2, HB4.out.1.trans (H6.out.mono HB4.out.1.size)⟩
end Go.Proofs.YtlommddabccdeaaGreatDoor

namespace Go.Proofs.YtlommddabccdeaaGreatDoor
open Go.ChangeShapes Go.WideShapes Go.ChangeAt Go.RowKit

theorem settleD_dead (w : World) (u : FrameMode) (J p E : Nat) (h : HeadV) (q : Bool) (hJ : JnlAt w J p h q) (hE : w.cell? ⟨E, 0, none⟩ = some (.int .i64 2)) :
    CallsD Tryz.prog 65 #[.pointer (some ⟨J, 0, none⟩), .pointer (some ⟨E, 0, none⟩)] u w fun e u' w' => u' = u ∧ (e = .returned (.tuple #[]) ∧ w' = w.setCell ⟨J, 4, none⟩ (.bool true)) := by
  have c4 := cell_at hJ (k := 4) rfl
  have f4 := free_at hJ (k := 4)
  clear hJ
  go_enter_d Tryz.func65, Tryz.ntmps65
  go_wp2
  go_end0
  exact ⟨rfl, rfl⟩
theorem settleD_else (w : World) (u : FrameMode) (J E : Nat) (x : Int) (hx : x ≠ 2) (hE : w.cell? ⟨E, 0, none⟩ = some (.int .i64 x)) :
    CallsD Tryz.prog 65 #[.pointer (some ⟨J, 0, none⟩), .pointer (some ⟨E, 0, none⟩)] u w fun e u' w' => u' = u ∧ (e = .returned (.tuple #[]) ∧ w' = w) := by
  have q1 : ¬ x = 2 := hx
  clear hx
  go_enter_d Tryz.func65, Tryz.ntmps65
  go_wp2
  go_end0
  exact ⟨rfl, rfl⟩
set_option maxHeartbeats 800000 in
theorem jrecords_any (w : World) (J : Nat) (D : DskP) (d : DskV) (h : HeadV) (hJ : JnlAt w J D.p h false) (hD : DskAt w D d) (hok : DskOk d) (hd : d.dead = false) (rs : List (List UInt8)) (hi : ImgOk d.ws h rs) :
    Calls Tryz.prog 41 #[.pointer (some ⟨J, 0, none⟩)] w fun e w' => ∃ v', e = .returned (.tuple #[v', .int .i64 0]) ∧ OwnS w.heap.size w' v' rs ∧ Below w.heap.size w w' := by
  have HL : Hid (∀ W, Below w.heap.size w W → Calls Tryz.prog 66 #[.pointer (some ⟨J, 0, none⟩)] W fun e w' => e = .returned (.bool true) ∧ W = w') := Lib.hid fun W hW => by
    have := lives_any W J D d h false (hJ.below hW) (hD.below hW)
    rw [hd] at this
    exact this
  have HR : Hid (∀ W, Below w.heap.size w W → Calls Tryz.prog 57 #[.pointer (some ⟨J, 0, none⟩)] W fun e w' => ∃ v', e = .returned (.tuple #[v', .int .i64 0]) ∧ OwnS W.heap.size w' v' rs ∧ Below W.heap.size W w') := Lib.hid fun W hW => jread_any W J D d h false (hJ.below hW) (hD.below hW) hok hd rs hi
  have HB0 : Hid (Below w.heap.size w (w.alloc (Obj.cells #[.int .i64 2] 29))) := Lib.hid ((Below.refl _ w).alloc (Nat.le_refl _) _)
  clear hJ hD hok hd hi
  go_enter_defers Tryz.func41, Tryz.ntmps41
  go_wp2_with (first
    | (go_at_call 66; refine (HL.out _ HB0.out).mono ?_; rintro e w2 ⟨rfl, rfl⟩)
    | (go_at_call 57; refine (HR.out _ HB0.out).mono ?_; rintro e w2 ⟨v2, rfl, ho2, hb2⟩
       have hE : w2.heap[w.heap.size]? = some (.cells #[.int .i64 2] 29 (0, 0)) := by rw [hb2.block _ (by simp)]; exact heap_alloc_new w _
       have c0 := cell_at hE (k := 0) rfl; have f0 := free_at hE (k := 0)
       have HE := Lib.hid hE; have H2 := Lib.hid (And.intro ho2 hb2); clear hE ho2 hb2))
  have r0 : (w2.setCell ⟨w.heap.size, 0, none⟩ (.int .i64 0)).cell? ⟨w.heap.size, 0, none⟩ = some (.int .i64 0) := World.cell?_setCell_same _ _ _ c0
  have HF : Hid (OwnS w.heap.size (w2.setCell ⟨w.heap.size, 0, none⟩ (.int .i64 0)) v2 rs ∧ Below w.heap.size w (w2.setCell ⟨w.heap.size, 0, none⟩ (.int .i64 0))) := Lib.hid (by
    have hb := HB0.out.trans (H2.out.2.mono HB0.out.size)
    refine ⟨⟨?_⟩, hb.setCell (p := ⟨w.heap.size, 0, none⟩) (Nat.le_refl _) _⟩
    have hk : OwnS (w.alloc (Obj.cells #[.int .i64 2] 29)).heap.size (w2.setCell ⟨w.heap.size, 0, none⟩ (.int .i64 0)) v2 rs := H2.out.1.kept fun g hg => Below.heap_setCell _ _ _ _ (fun e => by
      have h1 := (H2.out.1.lt hg).1
      rw [World.size_alloc] at h1
      have h2 : g = w.heap.size := e
      omega)
    obtain ⟨h1, h2⟩ := hk.own
    refine ⟨h1, ?_⟩
    rcases h2 with h3 | ⟨g, cap, cur, h4, h5, h6⟩
    · exact .inl h3
    · exact .inr ⟨g, cap, cur, h4, Nat.le_trans HB0.out.size h5, h6⟩)
  refine leaves_cons (f := 65) (args := #[.pointer (some ⟨J, 0, none⟩), .pointer (some ⟨w.heap.size, 0, none⟩)]) (by simp) (by simp [go_sem]) ?_
  refine (settleD_else _ _ J w.heap.size 0 (by decide) r0).mono ?_
  rintro e u' w'' ⟨rfl, rfl, rfl⟩
  simp [Leaves, settle, results, Tryz.results41, go_sem, r0]
  exact HF.out
end Go.Proofs.YtlommddabccdeaaGreatDoor
