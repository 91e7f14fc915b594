/-
  KeyAdd.
-/
import Derived.Test.YtbgoooljkdjjhaaGreatDoorQKeyOrd
import Derived.Test.YtbgoooljkdjjhaaGreatDoorQValueSame
import Derived.Test.YtbgoooljkdjjhaaGreatDoorQValueAll
namespace Go.Proofs.YtbgoooljkdjjhaaGreatDoor
open Go.ChangeShapes Go.WideShapes Go.ChangeAt Go.RowKit

set_option maxHeartbeats 1600000 in
set_option maxRecDepth 100000 in
theorem dflt_any (k : KeyV) (w : World) (hT : Tab w) (hU : Units w) (hM : MaxI w) (hs : k.dflt.size ≤ maxLen) :
    Calls Tryz.prog 59 #[kAgg k] w fun e w' => e = .returned (.bool (dfltK k)) ∧ Below w.heap.size w w' := by
  obtain ⟨nm, kd, dl, a, b, le⟩ := k
  have HW : Hid (∀ o, Below w.heap.size w (w.alloc o)) := Lib.hid (below_one w)
  have HP : Hid (∀ o, Calls Tryz.prog 84 #[.int .i64 kd, .string dl] (w.alloc o) (ParseRes (w.alloc o) (parseV kd dl))) := Lib.hid fun o => parse_any kd dl _ (hT.below (below_one w o)) (hU.below (below_one w o)) (hM.below (below_one w o)) hs
  have HWI : Hid (∀ w1 v x c, Below w.heap.size w w1 → ArgOk w1 v x c → Calls Tryz.prog 85 #[argV v x c, .int .i64 a, .int .i64 b] w1 fun e w' => e = .returned (.bool (withinV v a b)) ∧ Below w1.heap.size w1 w') := Lib.hid fun w1 v x c hb ha => within_any w1 v a b x c ha (hT.below hb)
  have HD : Hid (dfltK ⟨nm, kd, dl, a, b, le⟩ = (decide ((parseV kd dl).2 = 0) && withinV (parseV kd dl).1 a b)) := Lib.hid rfl
  have HB : Hid ((parseV kd dl).2 = 0 → (parseV kd dl).1.words.length ≤ 16 ∧ (∀ k (h : k < (parseV kd dl).1.words.length), (parseV kd dl).1.words[k].size ≤ 200) ∧ (parseV kd dl).1.text.size ≤ 200) := Lib.hid fun h => right_bounds (read_right h).1
  obtain ⟨r, hr⟩ : ∃ r, dfltK ⟨nm, kd, dl, a, b, le⟩ = r := ⟨_, rfl⟩
  rw [hr] at HD ⊢
  obtain ⟨p, hp⟩ : ∃ p, parseV kd dl = p := ⟨_, rfl⟩
  rw [hp] at HP HD HB
  obtain ⟨⟨vk, vn, vt, vw⟩, er⟩ := p
  unfold kAgg
  clear hT hU hM hr hp hs
  simp only at HD HB ⊢
  go_enter Tryz.func59, Tryz.ntmps59
  go_wp2_with fail
  refine (HP.out _).mono ?_
  rintro e w1 ⟨hb1, x, cap, rfl, ho⟩
  have hbx := (box6_new w ⟨nm, kd, dl, a, b, le⟩ _).below hb1
  have c3 : ∀ o, (w1.alloc o).cell? ⟨w.heap.size, 3, none⟩ = some (.int .i64 a) := fun o => (hbx.below (below_one w1 o)).c3
  have c4 : ∀ o, (w1.alloc o).cell? ⟨w.heap.size, 4, none⟩ = some (.int .i64 b) := fun o => (hbx.below (below_one w1 o)).c4
  have HB1 : Hid (∀ o, Below w.heap.size w (w1.alloc o)) := Lib.hid fun o => ((HW.out _).trans (hb1.mono (HW.out _).size)).trans ((below_one w1 o).mono (Nat.le_trans (HW.out _).size hb1.size))
  clear hbx
  have HO := Lib.hid ho
  clear hb1 ho
  by_cases he : er = 0
  · obtain ⟨b1, b2, b3⟩ := HB.out he
    have HA : Hid (∀ o, Calls Tryz.prog 85 #[argV ⟨vk, vn, vt, vw⟩ x cap, .int .i64 a, .int .i64 b] (w1.alloc o) fun e w' => e = .returned (.bool (withinV ⟨vk, vn, vt, vw⟩ a b)) ∧ Below (w1.alloc o).heap.size (w1.alloc o) w') := Lib.hid fun o => HWI.out (w1.alloc o) ⟨vk, vn, vt, vw⟩ x cap (HB1.out o) ((HO.out.arg (v := ⟨vk, vn, vt, vw⟩) (by show vw.length ≤ _; omega) (fun k hk => Nat.le_trans (b2 k hk) (by decide)) (Nat.le_trans b3 (by decide))).below (below_one w1 o))
    unfold argV at HA
    simp only at HA
    rw [decide_eq_true he, Bool.true_and] at HD
    obtain ⟨rw, hrw⟩ : ∃ rw, withinV ⟨vk, vn, vt, vw⟩ a b = rw := ⟨_, rfl⟩
    rw [hrw] at HA HD
    subst he
    clear b1 b2 b3 HB hrw HWI HP HO
    go_wp2_with fail
    refine (HA.out _).mono ?_
    rintro e w2 ⟨rfl, hb2⟩
    have HB2 := Lib.hid ((HB1.out _).trans (hb2.mono (HB1.out _).size))
    clear hb2
    go_wp2
    go_ret
    exact ⟨by rw [HD.out]; first | done | rfl, HB2.out⟩
  · have d0 : (er == 0) = false := beq_eq_false_iff_ne.2 he
    rw [decide_eq_false he, Bool.false_and] at HD
    clear HB HWI HP HO he
    go_wp2
    go_ret
    exact ⟨by rw [HD.out]; first | done | rfl, HB1.out _⟩

set_option maxRecDepth 100000 in
theorem clip_any (x : Option Addr) (n c : Nat) (w : World) (hc : n ≤ c) :
    Calls Tryz.prog 61 #[.slice x n c] w fun e w' => e = .returned (.slice x n n) ∧ w = w' := by
  have q1 : (n : Int) ≤ c := by omega
  have q2 : (0 : Int) ≤ n := by omega
  go_enter Tryz.func61, Tryz.ntmps61
  go_wp2
  go_ret
  exact ⟨rfl, rfl⟩

theorem Box6.put {w : World} {R : Nat} {k : KeyV} (h : Box6 w R k) (i : Nat) (u : Value) (hu : w.cell? ⟨R, i, none⟩ = some u) : Box6 (w.setCell ⟨R, i, none⟩ u) R k := by
  have c : ∀ j v, w.cell? ⟨R, j, none⟩ = some v → (w.setCell ⟨R, i, none⟩ u).cell? ⟨R, j, none⟩ = some v := fun j v hv => by
    by_cases hij : i = j
    · subst hij
      rw [hu] at hv
      rw [← hv]
      exact World.cell?_setCell_same _ _ _ hu
    · rw [World.cell?_setCell_other _ _ _ _ (fun e => hij (by injection e))]; exact hv
  exact ⟨c 0 _ h.c0, c 1 _ h.c1, c 2 _ h.c2, c 3 _ h.c3, c 4 _ h.c4, c 5 _ h.c5, fun j hj => by rw [World.frozen?_setCell]; exact h.fz j hj⟩
/-- The parameter of 'copied', and its result, in their blocks. -/
structure CP (w W : World) (R : Nat) (k : KeyV) : Prop where
  box : Box6 W R k
  res : Box6 W (R + 1) kZero
  below : Below R w W
theorem CP.below' {w W W' : World} {R : Nat} {k : KeyV} (h : CP w W R k) (hb : Below W.heap.size W W') : CP w W' R k := ⟨h.box.below hb, h.res.below hb, h.below.trans (hb.mono (Nat.le_of_lt h.box.lt))⟩
theorem CP.put {w W : World} {R : Nat} {k : KeyV} (h : CP w W R k) (i : Nat) (u : Value) (hu : W.cell? ⟨R, i, none⟩ = some u) : CP w (W.setCell ⟨R, i, none⟩ u) R k := by
  have ne : ∀ j, (⟨R, i, none⟩ : Addr) ≠ ⟨R + 1, j, none⟩ := fun j e => by injection e with e _ _; omega
  have c : ∀ j, (W.setCell ⟨R, i, none⟩ u).cell? ⟨R + 1, j, none⟩ = W.cell? ⟨R + 1, j, none⟩ := fun j => World.cell?_setCell_other _ _ _ _ (ne j)
  refine ⟨h.box.put i u hu, ⟨by rw [c]; exact h.res.c0, by rw [c]; exact h.res.c1, by rw [c]; exact h.res.c2, by rw [c]; exact h.res.c3, by rw [c]; exact h.res.c4, by rw [c]; exact h.res.c5, fun j hj => by rw [World.frozen?_setCell]; exact h.res.fz j hj⟩, h.below.setCell (p := ⟨R, i, none⟩) (Nat.le_refl _) _⟩
theorem CP.new (w : World) (k : KeyV) (t t2 : TypeId) : CP w ((w.alloc (Obj.cells #[.string k.name, .int .i64 k.kind, .string k.dflt, .int .i64 k.least, .int .i64 k.most, .string k.letter] t)).alloc (Obj.cells #[.string ⟨#[]⟩, .int .i64 0, .string ⟨#[]⟩, .int .i64 0, .int .i64 0, .string ⟨#[]⟩] t2)) w.heap.size k := by
  refine ⟨(box6_new w k t).below (below_one _ _), ?_, (below_one w _).trans ((below_one _ _).mono (by simp))⟩
  have h := box6_new (w.alloc (Obj.cells #[.string k.name, .int .i64 k.kind, .string k.dflt, .int .i64 k.least, .int .i64 k.most, .string k.letter] t)) kZero t2
  rw [show (w.alloc (Obj.cells #[.string k.name, .int .i64 k.kind, .string k.dflt, .int .i64 k.least, .int .i64 k.most, .string k.letter] t)).heap.size = w.heap.size + 1 by simp] at h
  exact h
set_option maxHeartbeats 1600000 in
set_option maxRecDepth 100000 in
theorem copied_any (k : KeyV) (w : World) (h1 : k.name.size ≤ 281474976710656) (h2 : k.dflt.size ≤ 281474976710656) (h3 : k.letter.size ≤ 281474976710656) :
    Calls Tryz.prog 62 #[kAgg k] w fun e w' => e = .returned (kAgg k) ∧ Below w.heap.size w w' := by
  obtain ⟨nm, kd, dl, a, b, le⟩ := k
  have HC0 : Hid (∀ t t2, CP w ((w.alloc (Obj.cells #[.string nm, .int .i64 kd, .string dl, .int .i64 a, .int .i64 b, .string le] t)).alloc (Obj.cells #[.string ⟨#[]⟩, .int .i64 0, .string ⟨#[]⟩, .int .i64 0, .int .i64 0, .string ⟨#[]⟩] t2)) w.heap.size ⟨nm, kd, dl, a, b, le⟩) := Lib.hid fun t t2 => CP.new w ⟨nm, kd, dl, a, b, le⟩ t t2
  unfold kAgg
  simp only at h1 h2 h3 ⊢
  go_enter Tryz.func62, Tryz.ntmps62
  go_wp2_with fail
  refine (clone_any nm _ h1).mono ?_
  rintro e w1 ⟨rfl, hb1⟩
  have HC1 := Lib.hid ((HC0.out _ _).below' hb1)
  clear hb1 HC0
  have a0 : w1.cell? ⟨w.heap.size, 0, none⟩ = some (.string nm) := HC1.out.box.c0
  have f0 : w1.frozen? ⟨w.heap.size, 0, none⟩ = false := HC1.out.box.fz 0 (by decide)
  have a2 : w1.cell? ⟨w.heap.size, 2, none⟩ = some (.string dl) := HC1.out.box.c2
  go_wp2_with fail
  refine (clone_any dl _ h2).mono ?_
  rintro e w2 ⟨rfl, hb2⟩
  have HC2 := Lib.hid ((HC1.out.put 0 _ HC1.out.box.c0).below' hb2)
  clear hb2 HC1 a0 f0 a2
  have a2 : w2.cell? ⟨w.heap.size, 2, none⟩ = some (.string dl) := HC2.out.box.c2
  have f2 : w2.frozen? ⟨w.heap.size, 2, none⟩ = false := HC2.out.box.fz 2 (by decide)
  have a5 : w2.cell? ⟨w.heap.size, 5, none⟩ = some (.string le) := HC2.out.box.c5
  go_wp2_with fail
  refine (clone_any le _ h3).mono ?_
  rintro e w3 ⟨rfl, hb3⟩
  have HC3 := Lib.hid ((HC2.out.put 2 _ HC2.out.box.c2).below' hb3)
  clear hb3 HC2 a2 f2 a5
  have HC4 := Lib.hid (HC3.out.put 5 _ HC3.out.box.c5)
  have s5 : w3.cell? ⟨w.heap.size, 5, none⟩ = some (.string le) := HC3.out.box.c5
  have t5 : w3.frozen? ⟨w.heap.size, 5, none⟩ = false := HC3.out.box.fz 5 (by decide)
  have HS6 : Hid (Box6 (set6 (w3.setCell ⟨w.heap.size, 5, none⟩ (.string le)) (w.heap.size + 1) ⟨nm, kd, dl, a, b, le⟩) (w.heap.size + 1) ⟨nm, kd, dl, a, b, le⟩ ∧ Below w.heap.size w (set6 (w3.setCell ⟨w.heap.size, 5, none⟩ (.string le)) (w.heap.size + 1) ⟨nm, kd, dl, a, b, le⟩)) := Lib.hid ⟨HC4.out.res.set6 _, below_set6 HC4.out.below (Nat.le_succ _) _⟩
  have r0 : w3.cell? ⟨w.heap.size, 0, none⟩ = some (.string nm) := HC3.out.box.c0
  have r1 : w3.cell? ⟨w.heap.size, 1, none⟩ = some (.int .i64 kd) := HC3.out.box.c1
  have r2 : w3.cell? ⟨w.heap.size, 2, none⟩ = some (.string dl) := HC3.out.box.c2
  have r3 : w3.cell? ⟨w.heap.size, 3, none⟩ = some (.int .i64 a) := HC3.out.box.c3
  have r4 : w3.cell? ⟨w.heap.size, 4, none⟩ = some (.int .i64 b) := HC3.out.box.c4
  have r6 : (w3.setCell ⟨w.heap.size, 5, none⟩ (.string le)).cell? ⟨w.heap.size, 5, none⟩ = some (.string le) := HC4.out.box.c5
  obtain ⟨b0, b1, b2, b3, b4, b5, bf⟩ := HC3.out.res
  have f0 := bf 0 (by decide)
  have f1 := bf 1 (by decide)
  have f2 := bf 2 (by decide)
  have f3 := bf 3 (by decide)
  have f4 := bf 4 (by decide)
  have f5 := bf 5 (by decide)
  obtain ⟨g0, g1, g2, g3, g4, g5, _⟩ := HS6.out.1
  have HF := Lib.hid HS6.out.2
  unfold kZero at b0 b1 b2 b3 b4 b5
  unfold set6 at g0 g1 g2 g3 g4 g5 HF
  simp only at b0 b1 b2 b3 b4 b5 g0 g1 g2 g3 g4 g5 HF
  clear bf HS6 HC3 HC4
  go_wp2
  exact bodyPost_ret (v := .agg #[.string nm, .int .i64 kd, .string dl, .int .i64 a, .int .i64 b, .string le]) (by simp [results, Tryz.results62, go_sem, g0, g1, g2, g3, g4, g5]) rfl ⟨rfl, HF.out⟩
end Go.Proofs.YtbgoooljkdjjhaaGreatDoor
