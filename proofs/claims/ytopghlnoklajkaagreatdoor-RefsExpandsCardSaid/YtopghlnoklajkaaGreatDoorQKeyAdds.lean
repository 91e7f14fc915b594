/-
  KeyAdd, KeyAdds.
-/
import Derived.Test.YtopghlnoklajkaaGreatDoorQKeyOrd
import Derived.Test.YtopghlnoklajkaaGreatDoorQValueSame
import Derived.Test.YtopghlnoklajkaaGreatDoorQBut
namespace Go.Proofs.YtopghlnoklajkaaGreatDoor
open Go.ChangeShapes Go.WideShapes Go.ChangeAt Go.RowKit

set_option maxHeartbeats 1600000 in
set_option maxRecDepth 100000 in
theorem dflt_any (k : KeyV) (w : World) (hT : Tab w) (hU : Units w) (hM : MaxI w) (hs : k.dflt.size ≤ maxLen) :
  Calls Tryz.prog 63 #[kAgg k] w fun e w' => e = .returned (.bool (dfltK k)) ∧ Below w.heap.size w w' := by
 obtain ⟨nm, kd, dl, a, b, le⟩ := k
 have HW : Hid (∀ o, Below w.heap.size w (w.alloc o)) := Lib.hid (below_one w)
 have HP : Hid (∀ o, Calls Tryz.prog 89 #[.int .i64 kd, .string dl] (w.alloc o) (ParseRes (w.alloc o) (parseV kd dl))) := Lib.hid fun o => parse_any kd dl _ (hT.below (below_one w o)) (hU.below (below_one w o)) (hM.below (below_one w o)) hs
 have HWI : Hid (∀ w1 v x c, Below w.heap.size w w1 → ArgOk w1 v x c → Calls Tryz.prog 87 #[argV v x c, .int .i64 a, .int .i64 b] w1 fun e w' => e = .returned (.bool (withinV v a b)) ∧ Below w1.heap.size w1 w') := Lib.hid fun w1 v x c hb ha => within_any w1 v a b x c ha (hT.below hb)
 have HD : Hid (dfltK ⟨nm, kd, dl, a, b, le⟩ = (decide ((parseV kd dl).2 = 0) && withinV (parseV kd dl).1 a b)) := Lib.hid rfl
 have HB : Hid ((parseV kd dl).2 = 0 → (parseV kd dl).1.words.length ≤ 16 ∧ (∀ k (h : k < (parseV kd dl).1.words.length), (parseV kd dl).1.words[k].size ≤ 200) ∧ (parseV kd dl).1.text.size ≤ 200) := Lib.hid fun h => right_bounds (read_right h).1
 obtain ⟨r, hr⟩ : ∃ r, dfltK ⟨nm, kd, dl, a, b, le⟩ = r := ⟨_, rfl⟩
 rw [hr] at HD ⊢
 obtain ⟨p, hp⟩ : ∃ p, parseV kd dl = p := ⟨_, rfl⟩
 rw [hp] at HP HD HB
 obtain ⟨⟨vk, vn, vt, vw⟩, er⟩ := p
 unfold kAgg
 clear hT hU hM hr hp hs
 simp only at HD HB ⊢
 go_enter Tryz.func63, Tryz.ntmps63
 go_wp2_with fail
 refine (HP.out _).mono ?_
 rintro e w1 ⟨hb1, x, cap, rfl, ho⟩
 have hbx := (box6_new w ⟨nm, kd, dl, a, b, le⟩ _).below hb1
 have c3 : ∀ o, (w1.alloc o).cell? ⟨w.heap.size, 3, none⟩ = some (.int .i64 a) := fun o => (hbx.below (below_one w1 o)).c3
 have c4 : ∀ o, (w1.alloc o).cell? ⟨w.heap.size, 4, none⟩ = some (.int .i64 b) := fun o => (hbx.below (below_one w1 o)).c4
 have HB1 : Hid (∀ o, Below w.heap.size w (w1.alloc o)) := Lib.hid fun o => ((HW.out _).trans (hb1.mono (HW.out _).size)).trans ((below_one w1 o).mono (Nat.le_trans (HW.out _).size hb1.size))
 clear hbx
 have HO := Lib.hid ho
 clear hb1 ho
 by_cases he : er = 0
 ·obtain ⟨b1, b2, b3⟩ := HB.out he
  have HA : Hid (∀ o, Calls Tryz.prog 87 #[argV ⟨vk, vn, vt, vw⟩ x cap, .int .i64 a, .int .i64 b] (w1.alloc o) fun e w' => e = .returned (.bool (withinV ⟨vk, vn, vt, vw⟩ a b)) ∧ Below (w1.alloc o).heap.size (w1.alloc o) w') := Lib.hid fun o => HWI.out (w1.alloc o) ⟨vk, vn, vt, vw⟩ x cap (HB1.out o) ((HO.out.arg (v := ⟨vk, vn, vt, vw⟩) (by show vw.length ≤ _; omega) (fun k hk => Nat.le_trans (b2 k hk) (by decide)) (Nat.le_trans b3 (by decide))).below (below_one w1 o))
  unfold argV at HA
  simp only at HA
  rw [decide_eq_true he, Bool.true_and] at HD
  obtain ⟨rw, hrw⟩ : ∃ rw, withinV ⟨vk, vn, vt, vw⟩ a b = rw := ⟨_, rfl⟩
  rw [hrw] at HA HD
  subst he
  clear b1 b2 b3 HB hrw HWI HP HO
  go_wp2_with fail
  refine (HA.out _).mono ?_
  rintro e w2 ⟨rfl, hb2⟩
  have HB2 := Lib.hid ((HB1.out _).trans (hb2.mono (HB1.out _).size))
  clear hb2
  go_wp2
  go_ret
  exact ⟨by rw [HD.out]; first | done | rfl, HB2.out⟩
 ·have d0 : (er == 0) = false := beq_eq_false_iff_ne.2 he
  rw [decide_eq_false he, Bool.false_and] at HD
  clear HB HWI HP HO he
  go_wp2
  go_ret
  exact ⟨by rw [HD.out]; first | done | rfl, HB1.out _⟩

set_option maxRecDepth 100000 in
theorem clip_any (x : Option Addr) (n c : Nat) (w : World) (hc : n ≤ c) :
  Calls Tryz.prog 65 #[.slice x n c] w fun e w' => e = .returned (.slice x n n) ∧ w = w' := by
 have q1 : (n : Int) ≤ c := by omega
 have q2 : (0 : Int) ≤ n := by omega
 go_enter Tryz.func65, Tryz.ntmps65
 go_wp2
 go_ret
 exact ⟨rfl, rfl⟩

theorem Box6.put {w : World} {R : Nat} {k : KeyV} (h : Box6 w R k) (i : Nat) (u : Value) (hu : w.cell? ⟨R, i, none⟩ = some u) : Box6 (w.setCell ⟨R, i, none⟩ u) R k := by
 have c : ∀ j v, w.cell? ⟨R, j, none⟩ = some v → (w.setCell ⟨R, i, none⟩ u).cell? ⟨R, j, none⟩ = some v := fun j v hv => by
  by_cases hij : i = j
  ·subst hij
   rw [hu] at hv
   rw [← hv]
   exact World.cell?_setCell_same _ _ _ hu
  ·rw [World.cell?_setCell_other _ _ _ _ (fun e => hij (by injection e))]; exact hv
 exact ⟨c 0 _ h.c0, c 1 _ h.c1, c 2 _ h.c2, c 3 _ h.c3, c 4 _ h.c4, c 5 _ h.c5, fun j hj => by rw [World.frozen?_setCell]; exact h.fz j hj⟩
structure CP (w W : World) (R : Nat) (k : KeyV) : Prop where
 box : Box6 W R k
 res : Box6 W (R + 1) kZero
 below : Below R w W
theorem CP.below' {w W W' : World} {R : Nat} {k : KeyV} (h : CP w W R k) (hb : Below W.heap.size W W') : CP w W' R k := ⟨h.box.below hb, h.res.below hb, h.below.trans (hb.mono (Nat.le_of_lt h.box.lt))⟩
theorem CP.put {w W : World} {R : Nat} {k : KeyV} (h : CP w W R k) (i : Nat) (u : Value) (hu : W.cell? ⟨R, i, none⟩ = some u) : CP w (W.setCell ⟨R, i, none⟩ u) R k := by
 have ne : ∀ j, (⟨R, i, none⟩ : Addr) ≠ ⟨R + 1, j, none⟩ := fun j e => by injection e with e _ _; omega
 have c : ∀ j, (W.setCell ⟨R, i, none⟩ u).cell? ⟨R + 1, j, none⟩ = W.cell? ⟨R + 1, j, none⟩ := fun j => World.cell?_setCell_other _ _ _ _ (ne j)
 refine ⟨h.box.put i u hu, ⟨by rw [c]; exact h.res.c0, by rw [c]; exact h.res.c1, by rw [c]; exact h.res.c2, by rw [c]; exact h.res.c3, by rw [c]; exact h.res.c4, by rw [c]; exact h.res.c5, fun j hj => by rw [World.frozen?_setCell]; exact h.res.fz j hj⟩, h.below.setCell (p := ⟨R, i, none⟩) (Nat.le_refl _) _⟩
theorem CP.new (w : World) (k : KeyV) (t t2 : TypeId) : CP w ((w.alloc (Obj.cells #[.string k.name, .int .i64 k.kind, .string k.dflt, .int .i64 k.least, .int .i64 k.most, .string k.letter] t)).alloc (Obj.cells #[.string ⟨#[]⟩, .int .i64 0, .string ⟨#[]⟩, .int .i64 0, .int .i64 0, .string ⟨#[]⟩] t2)) w.heap.size k := by
 refine ⟨(box6_new w k t).below (below_one _ _), ?_, (below_one w _).trans ((below_one _ _).mono (by simp))⟩
 have h := box6_new (w.alloc (Obj.cells #[.string k.name, .int .i64 k.kind, .string k.dflt, .int .i64 k.least, .int .i64 k.most, .string k.letter] t)) kZero t2
 rw [show (w.alloc (Obj.cells #[.string k.name, .int .i64 k.kind, .string k.dflt, .int .i64 k.least, .int .i64 k.most, .string k.letter] t)).heap.size = w.heap.size + 1 by simp] at h
 exact h
set_option maxHeartbeats 1600000 in
set_option maxRecDepth 100000 in
theorem copied_any (k : KeyV) (w : World) (h1 : k.name.size ≤ 281474976710656) (h2 : k.dflt.size ≤ 281474976710656) (h3 : k.letter.size ≤ 281474976710656) :
  Calls Tryz.prog 66 #[kAgg k] w fun e w' => e = .returned (kAgg k) ∧ Below w.heap.size w w' := by
 obtain ⟨nm, kd, dl, a, b, le⟩ := k
 have HC0 : Hid (∀ t t2, CP w ((w.alloc (Obj.cells #[.string nm, .int .i64 kd, .string dl, .int .i64 a, .int .i64 b, .string le] t)).alloc (Obj.cells #[.string ⟨#[]⟩, .int .i64 0, .string ⟨#[]⟩, .int .i64 0, .int .i64 0, .string ⟨#[]⟩] t2)) w.heap.size ⟨nm, kd, dl, a, b, le⟩) := Lib.hid fun t t2 => CP.new w ⟨nm, kd, dl, a, b, le⟩ t t2
 unfold kAgg
 simp only at h1 h2 h3 ⊢
 go_enter Tryz.func66, Tryz.ntmps66
 go_wp2_with fail
 refine (clone_any nm _ h1).mono ?_
 rintro e w1 ⟨rfl, hb1⟩
 have HC1 := Lib.hid ((HC0.out _ _).below' hb1)
 clear hb1 HC0
 have a0 : w1.cell? ⟨w.heap.size, 0, none⟩ = some (.string nm) := HC1.out.box.c0
 have f0 : w1.frozen? ⟨w.heap.size, 0, none⟩ = false := HC1.out.box.fz 0 (by decide)
 have a2 : w1.cell? ⟨w.heap.size, 2, none⟩ = some (.string dl) := HC1.out.box.c2
 go_wp2_with fail
 refine (clone_any dl _ h2).mono ?_
 rintro e w2 ⟨rfl, hb2⟩
 have HC2 := Lib.hid ((HC1.out.put 0 _ HC1.out.box.c0).below' hb2)
 clear hb2 HC1 a0 f0 a2
 have a2 : w2.cell? ⟨w.heap.size, 2, none⟩ = some (.string dl) := HC2.out.box.c2
 have f2 : w2.frozen? ⟨w.heap.size, 2, none⟩ = false := HC2.out.box.fz 2 (by decide)
 have a5 : w2.cell? ⟨w.heap.size, 5, none⟩ = some (.string le) := HC2.out.box.c5
 go_wp2_with fail
 refine (clone_any le _ h3).mono ?_
 rintro e w3 ⟨rfl, hb3⟩
 have HC3 := Lib.hid ((HC2.out.put 2 _ HC2.out.box.c2).below' hb3)
 clear hb3 HC2 a2 f2 a5
 have HC4 := Lib.hid (HC3.out.put 5 _ HC3.out.box.c5)
 have s5 : w3.cell? ⟨w.heap.size, 5, none⟩ = some (.string le) := HC3.out.box.c5
 have t5 : w3.frozen? ⟨w.heap.size, 5, none⟩ = false := HC3.out.box.fz 5 (by decide)
 have HS6 : Hid (Box6 (set6 (w3.setCell ⟨w.heap.size, 5, none⟩ (.string le)) (w.heap.size + 1) ⟨nm, kd, dl, a, b, le⟩) (w.heap.size + 1) ⟨nm, kd, dl, a, b, le⟩ ∧ Below w.heap.size w (set6 (w3.setCell ⟨w.heap.size, 5, none⟩ (.string le)) (w.heap.size + 1) ⟨nm, kd, dl, a, b, le⟩)) := Lib.hid ⟨HC4.out.res.set6 _, below_set6 HC4.out.below (Nat.le_succ _) _⟩
 have r0 : w3.cell? ⟨w.heap.size, 0, none⟩ = some (.string nm) := HC3.out.box.c0
 have r1 : w3.cell? ⟨w.heap.size, 1, none⟩ = some (.int .i64 kd) := HC3.out.box.c1
 have r2 : w3.cell? ⟨w.heap.size, 2, none⟩ = some (.string dl) := HC3.out.box.c2
 have r3 : w3.cell? ⟨w.heap.size, 3, none⟩ = some (.int .i64 a) := HC3.out.box.c3
 have r4 : w3.cell? ⟨w.heap.size, 4, none⟩ = some (.int .i64 b) := HC3.out.box.c4
 have r6 : (w3.setCell ⟨w.heap.size, 5, none⟩ (.string le)).cell? ⟨w.heap.size, 5, none⟩ = some (.string le) := HC4.out.box.c5
 obtain ⟨b0, b1, b2, b3, b4, b5, bf⟩ := HC3.out.res
 have f0 := bf 0 (by decide)
 have f1 := bf 1 (by decide)
 have f2 := bf 2 (by decide)
 have f3 := bf 3 (by decide)
 have f4 := bf 4 (by decide)
 have f5 := bf 5 (by decide)
 obtain ⟨g0, g1, g2, g3, g4, g5, _⟩ := HS6.out.1
 have HF := Lib.hid HS6.out.2
 unfold kZero at b0 b1 b2 b3 b4 b5
 unfold set6 at g0 g1 g2 g3 g4 g5 HF
 simp only at b0 b1 b2 b3 b4 b5 g0 g1 g2 g3 g4 g5 HF
 clear bf HS6 HC3 HC4
 go_wp2
 exact bodyPost_ret (v := .agg #[.string nm, .int .i64 kd, .string dl, .int .i64 a, .int .i64 b, .string le]) (by simp [results, Tryz.results66, go_sem, g0, g1, g2, g3, g4, g5]) rfl ⟨rfl, HF.out⟩
end Go.Proofs.YtopghlnoklajkaaGreatDoor

namespace Go.Proofs.YtopghlnoklajkaaGreatDoor
open Go.ChangeShapes Go.WideShapes Go.ChangeAt Go.RowKit

def Added (w : World) (S : Nat) (xs : List KeyV) (w' : World) : Prop := (∃ x c, SetAt w' S x c xs ∧ (w'.cell? ⟨S, 0, none⟩ = w.cell? ⟨S, 0, none⟩ ∨ ∀ b off, x = some ⟨b, off, none⟩ → w.heap.size ≤ b)) ∧ But S w w'

theorem setAt_put {w' : World} {S g c : Nat} {x : Option Addr} {c0 : Nat} {xs ys : List KeyV} (h : SetAt w' S x c0 xs) (hk : Keys w' (some ⟨g, 0, none⟩) ys) (hg : S ≠ g) (hc : ys.length ≤ c) (hn : ys ≠ []) : SetAt (w'.setCell ⟨S, 0, none⟩ (.slice (some ⟨g, 0, none⟩) ys.length c)) S (some ⟨g, 0, none⟩) c ys := by
 have o : ∀ j, (w'.setCell ⟨S, 0, none⟩ (.slice (some ⟨g, 0, none⟩) ys.length c)).cell? ⟨g, j, none⟩ = w'.cell? ⟨g, j, none⟩ := fun j => World.cell?_setCell_other _ _ _ _ (fun e => hg (by injection e))
 refine ⟨World.cell?_setCell_same _ _ _ h.cell, fun i hi => ?_, hc, fun e => absurd e hn, by rw [World.frozen?_setCell]; exact h.free⟩
 obtain ⟨b, e, hl, c0, c1, c2, c3, c4, c5⟩ := hk i hi
 have eb : g = b := by simpa using e
 subst eb
 exact ⟨g, rfl, by simpa using hl, by rw [o]; exact c0, by rw [o]; exact c1, by rw [o]; exact c2, by rw [o]; exact c3, by rw [o]; exact c4, by rw [o]; exact c5⟩
theorem keys_new (w : World) (k : KeyV) (t : TypeId) : Keys (w.alloc (Obj.cells #[.string k.name, .int .i64 k.kind, .string k.dflt, .int .i64 k.least, .int .i64 k.most, .string k.letter] t)) (some ⟨w.heap.size, 0, none⟩) [k] := by
 obtain ⟨c0, c1, c2, c3, c4, c5, _⟩ := box6_new w k t
 intro i hi
 obtain rfl : i = 0 := by simpa using hi
 exact ⟨w.heap.size, rfl, by simp, c0, c1, c2, c3, c4, c5⟩
theorem insert_any (xs : List KeyV) (k : KeyV) (i g : Nat) (x : Option Addr) (w : World) (hx : Keys w x xs) (h0 : xs = [] → x = none) (hg : Keys w (some ⟨g, 0, none⟩) [k]) (hi : i ≤ xs.length) (hn : xs.length ≤ 999999) :
  Calls Tryz.prog 64 #[.slice x xs.length xs.length, .int .i64 i, .slice (some ⟨g, 0, none⟩) 1 1] w (InsRes w (insK xs i k)) := by
 have hgl : g < w.heap.size := by
  obtain ⟨b, e, hl, _⟩ := hg 0 (Nat.zero_lt_one)
  have eb : g = b := by simpa using e
  omega
 rcases Nat.eq_zero_or_pos xs.length with h1 | h1
 ·have e := List.eq_nil_of_length_eq_zero h1
  subst e
  obtain rfl := h0 rfl
  obtain rfl : i = 0 := by simpa using hi
  exact insert_nil k g w hg
 ·obtain ⟨b, rfl, hbl, _⟩ := hx 0 h1
  rcases Nat.lt_or_ge i xs.length with h2 | h2
  ·exact insert_mid xs k i b g w hx hg hbl hgl h2 hn
  ·obtain rfl : i = xs.length := by omega
   have h := insert_end xs k b g w hx hg h1 hn
   rw [show insK xs xs.length k = xs ++ [k] by unfold insK; simp]
   exact h

theorem Box6.other {w : World} {R S : Nat} {k : KeyV} (h : Box6 w R k) (hn : S ≠ R) (u : Value) : Box6 (w.setCell ⟨S, 0, none⟩ u) R k := by
 have c : ∀ j, (w.setCell ⟨S, 0, none⟩ u).cell? ⟨R, j, none⟩ = w.cell? ⟨R, j, none⟩ := fun j => World.cell?_setCell_other _ _ _ _ (fun e => hn (by injection e))
 exact ⟨by rw [c]; exact h.c0, by rw [c]; exact h.c1, by rw [c]; exact h.c2, by rw [c]; exact h.c3, by rw [c]; exact h.c4, by rw [c]; exact h.c5, fun j hj => by rw [World.frozen?_setCell]; exact h.fz j hj⟩
theorem add_fin {w w5 w6 : World} {S g c6 c : Nat} {x : Option Addr} {xs ys : List KeyV} {i : Nat} {k : KeyV} {o : Obj} (hk : ys = insK xs i k) (hs : SetAt w6 S x c xs) (h6 : Keys w6 (some ⟨g, 0, none⟩) (insK xs i k)) (hg : (w5.alloc o).heap.size ≤ g) (hc : (insK xs i k).length ≤ c6)
  (hb5 : Below w.heap.size w w5) (hS : S < w5.heap.size) (hb : Below (w5.alloc o).heap.size (w5.alloc o) w6) : Added w S ys (w6.setCell ⟨S, 0, none⟩ (.slice (some ⟨g, 0, none⟩) (insK xs i k).length c6)) := by
 subst hk
 have h5 : w5.heap.size ≤ (w5.alloc o).heap.size := (below_one w5 o).size
 exact ⟨⟨_, _, setAt_put hs h6 (by omega) hc (by unfold insK; simp), .inr fun b off e => by
  obtain ⟨rfl, _⟩ : g = b ∧ 0 = off := by simpa using e
  exact Nat.le_trans hb5.size (Nat.le_trans h5 hg)⟩, (But.of_below ((hb5.trans ((below_one w5 o).mono hb5.size)).trans (hb.mono (Nat.le_trans hb5.size h5)))).setCell 0 _⟩
set_option maxHeartbeats 3200000 in
set_option maxRecDepth 100000 in
theorem add_any (xs : List KeyV) (k : KeyV) (S : Nat) (x : Option Addr) (c : Nat) (w : World) (h : SetAt w S x c xs) (hs : Sorted xs) (hl : xs.length ≤ 64) (hT : Tab w) (hU : Units w) (hM : MaxI w) (h1 : k.name.size ≤ 4294967280) (h2 : k.dflt.size ≤ 4294967280) (h3 : k.letter.size ≤ 4294967280) :
  Calls Tryz.prog 32 #[.pointer (some ⟨S, 0, none⟩), kAgg k] w fun e w' => e = .returned (.int .i64 (addE xs k)) ∧ Added w S (addK xs k) w' := by
 have HS := Lib.hid h
 have HP : Hid (∀ w1, Below w.heap.size w w1 → Calls Tryz.prog 60 #[.pointer (some ⟨S, 0, none⟩), .string k.name] w1 (FoundRes xs k.name w1)) := Lib.hid fun w1 hb => place_any xs k.name S x c w1 (h.below hb) (hs.mono _) (by omega)
 have HL : Hid (∀ w1, Below w.heap.size w w1 → Calls Tryz.prog 61 #[.pointer (some ⟨S, 0, none⟩), .string k.letter] w1 fun e w' => e = .returned (oAgg (letterK xs k.letter)) ∧ Below w1.heap.size w1 w') := Lib.hid fun w1 hb => letter_any xs k.letter S x c w1 (h.below hb) (by omega)
 have HF : Hid (∀ w1, Below w.heap.size w w1 → Calls Tryz.prog 62 #[kAgg k] w1 fun e w' => e = .returned (.bool (formK k)) ∧ Below w1.heap.size w1 w') := Lib.hid fun w1 hb => hasForm_any k w1 (hT.below hb) (Nat.le_trans h1 (by decide)) (Nat.le_trans h3 (by decide))
 have HD : Hid (∀ w1, Below w.heap.size w w1 → Calls Tryz.prog 63 #[kAgg k] w1 fun e w' => e = .returned (.bool (dfltK k)) ∧ Below w1.heap.size w1 w') := Lib.hid fun w1 hb => dflt_any k w1 (hT.below hb) (hU.below hb) (hM.below hb) (Nat.le_trans h2 (by decide))
 have HC : Hid (∀ w1, Calls Tryz.prog 66 #[kAgg k] w1 fun e w' => e = .returned (kAgg k) ∧ Below w1.heap.size w1 w') := Lib.hid fun w1 => copied_any k w1 (Nat.le_trans h1 (by decide)) (Nat.le_trans h2 (by decide)) (Nat.le_trans h3 (by decide))
 have HW : Hid (∀ o, Below w.heap.size w (w.alloc o)) := Lib.hid (below_one w)
 obtain ⟨nm, kd, dl, a, b, le⟩ := k
 unfold kAgg at HF HD HC ⊢
 simp only at HP HL HF HD HC ⊢
 obtain ⟨E, hE⟩ : ∃ E, addE xs ⟨nm, kd, dl, a, b, le⟩ = E := ⟨_, rfl⟩
 obtain ⟨ys, hys⟩ : ∃ ys, addK xs ⟨nm, kd, dl, a, b, le⟩ = ys := ⟨_, rfl⟩
 have HEE := Lib.hid hE
 have HYS := Lib.hid hys
 rw [hE, hys]
 clear h hT hU hM h1 h2 h3 hE hys
 go_enter Tryz.func32, Tryz.ntmps32
 go_wp2_with fail
 refine (HP.out _ (HW.out _)).mono ?_
 rintro e w1 ⟨i, hpi, rfl, hb1⟩
 have HX1 := Lib.hid ((box6_new w ⟨nm, kd, dl, a, b, le⟩ _).below hb1)
 have HB1 := Lib.hid ((HW.out _).trans (hb1.mono (HW.out _).size))
 have HPI := Lib.hid hpi
 obtain ⟨F, hF⟩ : ∃ F, (decide (i < xs.length) && decide (cmpAt xs nm i = 0)) = F := ⟨_, rfl⟩
 have HFF : Hid (hasK xs nm = F) := Lib.hid ((found_is hs hpi).symm.trans hF)
 rw [hF]
 have c5 : w1.cell? ⟨w.heap.size, 5, none⟩ = some (.string le) := HX1.out.c5
 clear hb1 hpi hF HP
 go_wp2_with fail
 refine (HL.out _ HB1.out).mono ?_
 rintro e w2 ⟨rfl, hb2⟩
 clear c5
 have HX2 : Hid (∀ o, Box6 (w2.alloc o) w.heap.size ⟨nm, kd, dl, a, b, le⟩) := Lib.hid fun o => (HX1.out.below hb2).below (below_one w2 o)
 have HB2 : Hid (∀ o, Below w.heap.size w (w2.alloc o)) := Lib.hid fun o => (HB1.out.trans (hb2.mono HB1.out.size)).trans ((below_one w2 o).mono (Nat.le_trans HB1.out.size hb2.size))
 obtain ⟨r, hr⟩ : ∃ r, letterK xs le = r := ⟨_, rfl⟩
 have HR := Lib.hid hr
 rw [hr]
 unfold oAgg kAgg
 obtain ⟨G, hG⟩ : ∃ G, r.isSome = G := ⟨_, rfl⟩
 have HG := Lib.hid hG
 rw [hG]
 clear hb2 hr hG HL HX1 HB1
 have c0 : ∀ o, (w2.alloc o).cell? ⟨w.heap.size, 0, none⟩ = some (.string nm) := fun o => (HX2.out o).c0
 have c1 : ∀ o, (w2.alloc o).cell? ⟨w.heap.size, 1, none⟩ = some (.int .i64 kd) := fun o => (HX2.out o).c1
 have c2 : ∀ o, (w2.alloc o).cell? ⟨w.heap.size, 2, none⟩ = some (.string dl) := fun o => (HX2.out o).c2
 have c3 : ∀ o, (w2.alloc o).cell? ⟨w.heap.size, 3, none⟩ = some (.int .i64 a) := fun o => (HX2.out o).c3
 have c4 : ∀ o, (w2.alloc o).cell? ⟨w.heap.size, 4, none⟩ = some (.int .i64 b) := fun o => (HX2.out o).c4
 have c5 : ∀ o, (w2.alloc o).cell? ⟨w.heap.size, 5, none⟩ = some (.string le) := fun o => (HX2.out o).c5
 go_wp2_with fail
 refine (HF.out _ (HB2.out _)).mono ?_
 rintro e w3 ⟨rfl, hb3⟩
 clear c0 c1 c2 c3 c4 c5
 have HX3 := Lib.hid ((HX2.out _).below hb3)
 have HB3 := Lib.hid ((HB2.out _).trans (hb3.mono (HB2.out _).size))
 obtain ⟨rf, hrf⟩ : ∃ rf, formK ⟨nm, kd, dl, a, b, le⟩ = rf := ⟨_, rfl⟩
 have HRF := Lib.hid hrf
 rw [hrf]
 clear hb3 hrf HF HX2 HB2
 cases rf with
 | false =>
  have HE : Hid (E = 50 ∧ Added w S ys w3) := Lib.hid (by
   have he : addE xs ⟨nm, kd, dl, a, b, le⟩ = 50 := by unfold addE; rw [if_pos HRF.out]
   refine ⟨HEE.out.symm.trans he, ?_⟩
   rw [← HYS.out]
   unfold addK
   rw [he, if_neg (by decide)]
   exact ⟨⟨x, c, HS.out.below HB3.out, .inl (HB3.out.cell (p := ⟨S, 0, none⟩) (lt_of_cell HS.out.cell))⟩, But.of_below HB3.out⟩)
  go_wp2
  go_ret
  exact ⟨by rw [HE.out.1]; first | done | rfl, HE.out.2⟩
 | true =>
  have c0 : w3.cell? ⟨w.heap.size, 0, none⟩ = some (.string nm) := HX3.out.c0
  have c1 : w3.cell? ⟨w.heap.size, 1, none⟩ = some (.int .i64 kd) := HX3.out.c1
  have c2 : w3.cell? ⟨w.heap.size, 2, none⟩ = some (.string dl) := HX3.out.c2
  have c3 : w3.cell? ⟨w.heap.size, 3, none⟩ = some (.int .i64 a) := HX3.out.c3
  have c4 : w3.cell? ⟨w.heap.size, 4, none⟩ = some (.int .i64 b) := HX3.out.c4
  have c5 : w3.cell? ⟨w.heap.size, 5, none⟩ = some (.string le) := HX3.out.c5
  go_wp2_with fail
  refine (HD.out _ HB3.out).mono ?_
  rintro e w4 ⟨rfl, hb4⟩
  clear c0 c1 c2 c3 c4 c5
  have HX4 := Lib.hid (HX3.out.below hb4)
  have HB4 := Lib.hid (HB3.out.trans (hb4.mono HB3.out.size))
  obtain ⟨rd, hrd⟩ : ∃ rd, dfltK ⟨nm, kd, dl, a, b, le⟩ = rd := ⟨_, rfl⟩
  have HRD := Lib.hid hrd
  rw [hrd]
  clear hb4 hrd HD HX3 HB3
  have HST : Hid (E ≠ 0 → Added w S ys w4) := Lib.hid fun he => by
   rw [← HYS.out]
   unfold addK
   rw [HEE.out, if_neg he]
   exact ⟨⟨x, c, HS.out.below HB4.out, .inl (HB4.out.cell (p := ⟨S, 0, none⟩) (lt_of_cell HS.out.cell))⟩, But.of_below HB4.out⟩
  have HAE : Hid (E = if rd = false then 53 else if F = true then 51 else if G = true then 52 else if 64 ≤ xs.length then 54 else 0) := Lib.hid (by
   rw [← HEE.out]
   unfold addE
   rw [if_neg (by rw [HRF.out]; decide), HRD.out, HFF.out, HR.out, HG.out])
  cases rd with
  | false =>
   rw [if_pos rfl] at HAE
   go_wp2
   go_ret
   exact ⟨by rw [HAE.out]; first | done | rfl, HST.out (by rw [HAE.out]; decide)⟩
  | true =>
   rw [if_neg (by decide)] at HAE
   cases F with
   | true =>
    rw [if_pos rfl] at HAE
    go_wp2
    go_ret
    exact ⟨by rw [HAE.out]; first | done | rfl, HST.out (by rw [HAE.out]; decide)⟩
   | false =>
    rw [if_neg (by decide)] at HAE
    cases G with
    | true =>
     rw [if_pos rfl] at HAE
     go_wp2
     go_ret
     exact ⟨by rw [HAE.out]; first | done | rfl, HST.out (by rw [HAE.out]; decide)⟩
    | false =>
     rw [if_neg (by decide)] at HAE
     have HS4 := Lib.hid (HS.out.below HB4.out)
     have s0 : w4.cell? ⟨S, 0, none⟩ = some (.slice x xs.length c) := HS4.out.cell
     by_cases hm : 64 ≤ xs.length
     ·have q1 : (64 : Int) ≤ (xs.length : Int) := by omega
      rw [if_pos hm] at HAE
      clear hm
      go_wp2
      go_ret
      exact ⟨by rw [HAE.out]; first | done | rfl, HST.out (by rw [HAE.out]; decide)⟩
     ·have q1 : ¬ (64 : Int) ≤ (xs.length : Int) := by omega
      rw [if_neg hm] at HAE
      have hxl : xs.length ≤ 999999 := by omega
      have HAK : Hid (ys = insK xs i ⟨nm, kd, dl, a, b, le⟩) := Lib.hid (by
       rw [← HYS.out]
       unfold addK
       rw [HEE.out, HAE.out, if_pos rfl, place_one (posK_is (hs.mono _)) HPI.out])
      clear hm HST
      have c0 : w4.cell? ⟨w.heap.size, 0, none⟩ = some (.string nm) := HX4.out.c0
      have c1 : w4.cell? ⟨w.heap.size, 1, none⟩ = some (.int .i64 kd) := HX4.out.c1
      have c2 : w4.cell? ⟨w.heap.size, 2, none⟩ = some (.string dl) := HX4.out.c2
      have c3 : w4.cell? ⟨w.heap.size, 3, none⟩ = some (.int .i64 a) := HX4.out.c3
      have c4 : w4.cell? ⟨w.heap.size, 4, none⟩ = some (.int .i64 b) := HX4.out.c4
      have c5 : w4.cell? ⟨w.heap.size, 5, none⟩ = some (.string le) := HX4.out.c5
      have HIL : Hid (i ≤ xs.length) := Lib.hid (And.left (show i ≤ xs.length ∧ _ from HPI.out))
      have HSR : Hid (S ≠ w.heap.size) := Lib.hid (by have := lt_of_cell HS.out.cell; omega)
      have HX5 := HX4
      have hf4 : w4.frozen? ⟨S, 0, none⟩ = false := HS4.out.free
      clear HX4
      go_wp2_with fail
      go_region_law (first
        | (go_simp; (with_reducible refine (clip_any x _ c _ HS4.out.room).mono ?_); rintro e w' ⟨rfl, rfl⟩; dsimp only)
        | (go_simp; (with_reducible refine (HC.out _).mono ?_); rintro e w5 ⟨rfl, hb5⟩; have hs5 := HS4.out.below ((below_drewN w4 1).trans hb5); have HS5 := Lib.hid hs5; have hx5 := HX5.out.below ((below_drewN w4 1).trans hb5); have HX6 := Lib.hid hx5; have p0 : ∀ o, (w5.alloc o).cell? ⟨w.heap.size, 0, none⟩ = some (.string nm) := fun o => (HX6.out.below (below_one w5 o)).c0; have p1 : ∀ o, (w5.alloc o).cell? ⟨w.heap.size, 1, none⟩ = some (.int .i64 kd) := fun o => (HX6.out.below (below_one w5 o)).c1; have p2 : ∀ o, (w5.alloc o).cell? ⟨w.heap.size, 2, none⟩ = some (.string dl) := fun o => (HX6.out.below (below_one w5 o)).c2; have p3 : ∀ o, (w5.alloc o).cell? ⟨w.heap.size, 3, none⟩ = some (.int .i64 a) := fun o => (HX6.out.below (below_one w5 o)).c3; have p4 : ∀ o, (w5.alloc o).cell? ⟨w.heap.size, 4, none⟩ = some (.int .i64 b) := fun o => (HX6.out.below (below_one w5 o)).c4; have p5 : ∀ o, (w5.alloc o).cell? ⟨w.heap.size, 5, none⟩ = some (.string le) := fun o => (HX6.out.below (below_one w5 o)).c5; have z0 := hs5.cell; have zf := hs5.free; obtain ⟨d0, d1, d2, d3, d4, d5, _⟩ := hx5; have HB5 := Lib.hid (HB4.out.trans (((below_drewN w4 1).trans hb5).mono HB4.out.size)); have HK5 : Hid (∀ o, Keys (w5.alloc o) x xs) := Lib.hid fun o => hs5.keys.below (below_one w5 o); dsimp only)
        | (go_simp; (with_reducible refine (insert_any xs ⟨nm, kd, dl, a, b, le⟩ i w5.heap.size x _ (HK5.out _) (fun e => (HS5.out.none_ e).1) (keys_new w5 ⟨nm, kd, dl, a, b, le⟩ _) HIL.out hxl).mono ?_); rintro e w6 ⟨g, c6, rfl, hg6, hc6, hk6, hb6⟩; have hs6 := (HS5.out.below (below_one w5 _)).below hb6; have hx6 := (HX6.out.below (below_one w5 _)).below hb6; have y0 := hs6.cell; have yf := hs6.free; obtain ⟨u0, u1, u2, u3, u4, u5, _⟩ := hx6.other HSR.out (.slice (some ⟨g, 0, none⟩) (insK xs i ⟨nm, kd, dl, a, b, le⟩).length c6); obtain ⟨e0, e1, e2, e3, e4, e5, _⟩ := hx6; have HFIN := Lib.hid (add_fin HAK.out hs6 hk6 hg6 hc6 HB5.out (lt_of_cell z0) hb6); dsimp only))
      all_goals
       go_wp2
       go_ret
       exact ⟨by rw [HAE.out]; first | done | rfl, HFIN.out⟩
end Go.Proofs.YtopghlnoklajkaaGreatDoor
