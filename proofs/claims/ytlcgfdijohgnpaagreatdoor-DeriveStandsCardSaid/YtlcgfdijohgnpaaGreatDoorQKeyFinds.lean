/-
  KeyAdd, KeyAdds, KeyStd, KeySet, KeyFinds.
-/
import Derived.Test.YtlcgfdijohgnpaaGreatDoorQKeyOrd
import Derived.Test.YtlcgfdijohgnpaaGreatDoorQValueSame
import Derived.Test.YtlcgfdijohgnpaaGreatDoorQValueAll
import Derived.Test.YtlcgfdijohgnpaaGreatDoorQBut
import Derived.Lib.SliceRun
namespace Go.Proofs.YtlcgfdijohgnpaaGreatDoor
open Go.ChangeShapes Go.WideShapes Go.ChangeAt Go.RowKit

set_option maxHeartbeats 1600000 in
set_option maxRecDepth 100000 in
theorem dflt_any (k : KeyV) (w : World) (hT : Tab w) (hU : Units w) (hM : MaxI w) (hs : k.dflt.size ≤ maxLen) :
  Calls Tryz.prog 90 #[kAgg k] w fun e w' => e = .returned (.bool (dfltK k)) ∧ Below w.heap.size w w' := by
 obtain ⟨nm, kd, dl, a, b, le⟩ := k
 have HW : Hid (∀ o, Below w.heap.size w (w.alloc o)) := Lib.hid (below_one w)
 have HP : Hid (∀ o, Calls Tryz.prog 68 #[.int .i64 kd, .string dl] (w.alloc o) (ParseRes (w.alloc o) (parseV kd dl))) := Lib.hid fun o => parse_any kd dl _ (hT.below (below_one w o)) (hU.below (below_one w o)) (hM.below (below_one w o)) hs
 have HWI : Hid (∀ w1 v x c, Below w.heap.size w w1 → ArgOk w1 v x c → Calls Tryz.prog 81 #[argV v x c, .int .i64 a, .int .i64 b] w1 fun e w' => e = .returned (.bool (withinV v a b)) ∧ Below w1.heap.size w1 w') := Lib.hid fun w1 v x c hb ha => within_any w1 v a b x c ha (hT.below hb)
 have HD : Hid (dfltK ⟨nm, kd, dl, a, b, le⟩ = (decide ((parseV kd dl).2 = 0) && withinV (parseV kd dl).1 a b)) := Lib.hid rfl
 have HB : Hid ((parseV kd dl).2 = 0 → (parseV kd dl).1.words.length ≤ 16 ∧ (∀ k (h : k < (parseV kd dl).1.words.length), (parseV kd dl).1.words[k].size ≤ 200) ∧ (parseV kd dl).1.text.size ≤ 200) := Lib.hid fun h => right_bounds (read_right h).1
 obtain ⟨r, hr⟩ : ∃ r, dfltK ⟨nm, kd, dl, a, b, le⟩ = r := ⟨_, rfl⟩
 rw [hr] at HD ⊢
 obtain ⟨p, hp⟩ : ∃ p, parseV kd dl = p := ⟨_, rfl⟩
 rw [hp] at HP HD HB
 obtain ⟨⟨vk, vn, vt, vw⟩, er⟩ := p
 unfold kAgg
 clear hT hU hM hr hp hs
 simp only at HD HB ⊢
 go_enter Tryz.func90, Tryz.ntmps90
 go_wp2_with fail
 refine (HP.out _).mono ?_
 rintro e w1 ⟨hb1, x, cap, rfl, ho⟩
 have hbx := (box6_new w ⟨nm, kd, dl, a, b, le⟩ _).below hb1
 have c3 : ∀ o, (w1.alloc o).cell? ⟨w.heap.size, 3, none⟩ = some (.int .i64 a) := fun o => (hbx.below (below_one w1 o)).c3
 have c4 : ∀ o, (w1.alloc o).cell? ⟨w.heap.size, 4, none⟩ = some (.int .i64 b) := fun o => (hbx.below (below_one w1 o)).c4
 have HB1 : Hid (∀ o, Below w.heap.size w (w1.alloc o)) := Lib.hid fun o => ((HW.out _).trans (hb1.mono (HW.out _).size)).trans ((below_one w1 o).mono (Nat.le_trans (HW.out _).size hb1.size))
 clear hbx
 have HO := Lib.hid ho
 clear hb1 ho
 by_cases he : er = 0
 ·obtain ⟨b1, b2, b3⟩ := HB.out he
  have HA : Hid (∀ o, Calls Tryz.prog 81 #[argV ⟨vk, vn, vt, vw⟩ x cap, .int .i64 a, .int .i64 b] (w1.alloc o) fun e w' => e = .returned (.bool (withinV ⟨vk, vn, vt, vw⟩ a b)) ∧ Below (w1.alloc o).heap.size (w1.alloc o) w') := Lib.hid fun o => HWI.out (w1.alloc o) ⟨vk, vn, vt, vw⟩ x cap (HB1.out o) ((HO.out.arg (v := ⟨vk, vn, vt, vw⟩) (by show vw.length ≤ _; omega) (fun k hk => Nat.le_trans (b2 k hk) (by decide)) (Nat.le_trans b3 (by decide))).below (below_one w1 o))
  unfold argV at HA
  simp only at HA
  rw [decide_eq_true he, Bool.true_and] at HD
  obtain ⟨rw, hrw⟩ : ∃ rw, withinV ⟨vk, vn, vt, vw⟩ a b = rw := ⟨_, rfl⟩
  rw [hrw] at HA HD
  subst he
  clear b1 b2 b3 HB hrw HWI HP HO
  go_wp2_with fail
  refine (HA.out _).mono ?_
  rintro e w2 ⟨rfl, hb2⟩
  have HB2 := Lib.hid ((HB1.out _).trans (hb2.mono (HB1.out _).size))
  clear hb2
  go_wp2
  go_ret
  exact ⟨by rw [HD.out]; first | done | rfl, HB2.out⟩
 ·have d0 : (er == 0) = false := beq_eq_false_iff_ne.2 he
  rw [decide_eq_false he, Bool.false_and] at HD
  clear HB HWI HP HO he
  go_wp2
  go_ret
  exact ⟨by rw [HD.out]; first | done | rfl, HB1.out _⟩

set_option maxRecDepth 100000 in
theorem clip_any (x : Option Addr) (n c : Nat) (w : World) (hc : n ≤ c) :
  Calls Tryz.prog 92 #[.slice x n c] w fun e w' => e = .returned (.slice x n n) ∧ w = w' := by
 have q1 : (n : Int) ≤ c := by omega
 have q2 : (0 : Int) ≤ n := by omega
 go_enter Tryz.func92, Tryz.ntmps92
 go_wp2
 go_ret
 exact ⟨rfl, rfl⟩

theorem Box6.put {w : World} {R : Nat} {k : KeyV} (h : Box6 w R k) (i : Nat) (u : Value) (hu : w.cell? ⟨R, i, none⟩ = some u) : Box6 (w.setCell ⟨R, i, none⟩ u) R k := by
 have c : ∀ j v, w.cell? ⟨R, j, none⟩ = some v → (w.setCell ⟨R, i, none⟩ u).cell? ⟨R, j, none⟩ = some v := fun j v hv => by
  by_cases hij : i = j
  ·subst hij
   rw [hu] at hv
   rw [← hv]
   exact World.cell?_setCell_same _ _ _ hu
  ·rw [World.cell?_setCell_other _ _ _ _ (fun e => hij (by injection e))]; exact hv
 exact ⟨c 0 _ h.c0, c 1 _ h.c1, c 2 _ h.c2, c 3 _ h.c3, c 4 _ h.c4, c 5 _ h.c5, fun j hj => by rw [World.frozen?_setCell]; exact h.fz j hj⟩
structure CP (w W : World) (R : Nat) (k : KeyV) : Prop where
 box : Box6 W R k
 res : Box6 W (R + 1) kZero
 below : Below R w W
theorem CP.below' {w W W' : World} {R : Nat} {k : KeyV} (h : CP w W R k) (hb : Below W.heap.size W W') : CP w W' R k := ⟨h.box.below hb, h.res.below hb, h.below.trans (hb.mono (Nat.le_of_lt h.box.lt))⟩
theorem CP.put {w W : World} {R : Nat} {k : KeyV} (h : CP w W R k) (i : Nat) (u : Value) (hu : W.cell? ⟨R, i, none⟩ = some u) : CP w (W.setCell ⟨R, i, none⟩ u) R k := by
 have ne : ∀ j, (⟨R, i, none⟩ : Addr) ≠ ⟨R + 1, j, none⟩ := fun j e => by injection e with e _ _; omega
 have c : ∀ j, (W.setCell ⟨R, i, none⟩ u).cell? ⟨R + 1, j, none⟩ = W.cell? ⟨R + 1, j, none⟩ := fun j => World.cell?_setCell_other _ _ _ _ (ne j)
 refine ⟨h.box.put i u hu, ⟨by rw [c]; exact h.res.c0, by rw [c]; exact h.res.c1, by rw [c]; exact h.res.c2, by rw [c]; exact h.res.c3, by rw [c]; exact h.res.c4, by rw [c]; exact h.res.c5, fun j hj => by rw [World.frozen?_setCell]; exact h.res.fz j hj⟩, h.below.setCell (p := ⟨R, i, none⟩) (Nat.le_refl _) _⟩
theorem CP.new (w : World) (k : KeyV) (t t2 : TypeId) : CP w ((w.alloc (Obj.cells #[.string k.name, .int .i64 k.kind, .string k.dflt, .int .i64 k.least, .int .i64 k.most, .string k.letter] t)).alloc (Obj.cells #[.string ⟨#[]⟩, .int .i64 0, .string ⟨#[]⟩, .int .i64 0, .int .i64 0, .string ⟨#[]⟩] t2)) w.heap.size k := by
 refine ⟨(box6_new w k t).below (below_one _ _), ?_, (below_one w _).trans ((below_one _ _).mono (by simp))⟩
 have h := box6_new (w.alloc (Obj.cells #[.string k.name, .int .i64 k.kind, .string k.dflt, .int .i64 k.least, .int .i64 k.most, .string k.letter] t)) kZero t2
 rw [show (w.alloc (Obj.cells #[.string k.name, .int .i64 k.kind, .string k.dflt, .int .i64 k.least, .int .i64 k.most, .string k.letter] t)).heap.size = w.heap.size + 1 by simp] at h
 exact h
set_option maxHeartbeats 1600000 in
set_option maxRecDepth 100000 in
theorem copied_any (k : KeyV) (w : World) (h1 : k.name.size ≤ 281474976710656) (h2 : k.dflt.size ≤ 281474976710656) (h3 : k.letter.size ≤ 281474976710656) :
  Calls Tryz.prog 93 #[kAgg k] w fun e w' => e = .returned (kAgg k) ∧ Below w.heap.size w w' := by
 obtain ⟨nm, kd, dl, a, b, le⟩ := k
 have HC0 : Hid (∀ t t2, CP w ((w.alloc (Obj.cells #[.string nm, .int .i64 kd, .string dl, .int .i64 a, .int .i64 b, .string le] t)).alloc (Obj.cells #[.string ⟨#[]⟩, .int .i64 0, .string ⟨#[]⟩, .int .i64 0, .int .i64 0, .string ⟨#[]⟩] t2)) w.heap.size ⟨nm, kd, dl, a, b, le⟩) := Lib.hid fun t t2 => CP.new w ⟨nm, kd, dl, a, b, le⟩ t t2
 unfold kAgg
 simp only at h1 h2 h3 ⊢
 go_enter Tryz.func93, Tryz.ntmps93
 go_wp2_with fail
 refine (clone_any nm _ h1).mono ?_
 rintro e w1 ⟨rfl, hb1⟩
 have HC1 := Lib.hid ((HC0.out _ _).below' hb1)
 clear hb1 HC0
 have a0 : w1.cell? ⟨w.heap.size, 0, none⟩ = some (.string nm) := HC1.out.box.c0
 have f0 : w1.frozen? ⟨w.heap.size, 0, none⟩ = false := HC1.out.box.fz 0 (by decide)
 have a2 : w1.cell? ⟨w.heap.size, 2, none⟩ = some (.string dl) := HC1.out.box.c2
 go_wp2_with fail
 refine (clone_any dl _ h2).mono ?_
 rintro e w2 ⟨rfl, hb2⟩
 have HC2 := Lib.hid ((HC1.out.put 0 _ HC1.out.box.c0).below' hb2)
 clear hb2 HC1 a0 f0 a2
 have a2 : w2.cell? ⟨w.heap.size, 2, none⟩ = some (.string dl) := HC2.out.box.c2
 have f2 : w2.frozen? ⟨w.heap.size, 2, none⟩ = false := HC2.out.box.fz 2 (by decide)
 have a5 : w2.cell? ⟨w.heap.size, 5, none⟩ = some (.string le) := HC2.out.box.c5
 go_wp2_with fail
 refine (clone_any le _ h3).mono ?_
 rintro e w3 ⟨rfl, hb3⟩
 have HC3 := Lib.hid ((HC2.out.put 2 _ HC2.out.box.c2).below' hb3)
 clear hb3 HC2 a2 f2 a5
 have HC4 := Lib.hid (HC3.out.put 5 _ HC3.out.box.c5)
 have s5 : w3.cell? ⟨w.heap.size, 5, none⟩ = some (.string le) := HC3.out.box.c5
 have t5 : w3.frozen? ⟨w.heap.size, 5, none⟩ = false := HC3.out.box.fz 5 (by decide)
 have HS6 : Hid (Box6 (set6 (w3.setCell ⟨w.heap.size, 5, none⟩ (.string le)) (w.heap.size + 1) ⟨nm, kd, dl, a, b, le⟩) (w.heap.size + 1) ⟨nm, kd, dl, a, b, le⟩ ∧ Below w.heap.size w (set6 (w3.setCell ⟨w.heap.size, 5, none⟩ (.string le)) (w.heap.size + 1) ⟨nm, kd, dl, a, b, le⟩)) := Lib.hid ⟨HC4.out.res.set6 _, below_set6 HC4.out.below (Nat.le_succ _) _⟩
 have r0 : w3.cell? ⟨w.heap.size, 0, none⟩ = some (.string nm) := HC3.out.box.c0
 have r1 : w3.cell? ⟨w.heap.size, 1, none⟩ = some (.int .i64 kd) := HC3.out.box.c1
 have r2 : w3.cell? ⟨w.heap.size, 2, none⟩ = some (.string dl) := HC3.out.box.c2
 have r3 : w3.cell? ⟨w.heap.size, 3, none⟩ = some (.int .i64 a) := HC3.out.box.c3
 have r4 : w3.cell? ⟨w.heap.size, 4, none⟩ = some (.int .i64 b) := HC3.out.box.c4
 have r6 : (w3.setCell ⟨w.heap.size, 5, none⟩ (.string le)).cell? ⟨w.heap.size, 5, none⟩ = some (.string le) := HC4.out.box.c5
 obtain ⟨b0, b1, b2, b3, b4, b5, bf⟩ := HC3.out.res
 have f0 := bf 0 (by decide)
 have f1 := bf 1 (by decide)
 have f2 := bf 2 (by decide)
 have f3 := bf 3 (by decide)
 have f4 := bf 4 (by decide)
 have f5 := bf 5 (by decide)
 obtain ⟨g0, g1, g2, g3, g4, g5, _⟩ := HS6.out.1
 have HF := Lib.hid HS6.out.2
 unfold kZero at b0 b1 b2 b3 b4 b5
 unfold set6 at g0 g1 g2 g3 g4 g5 HF
 simp only at b0 b1 b2 b3 b4 b5 g0 g1 g2 g3 g4 g5 HF
 clear bf HS6 HC3 HC4
 go_wp2
 exact bodyPost_ret (v := .agg #[.string nm, .int .i64 kd, .string dl, .int .i64 a, .int .i64 b, .string le]) (by simp [results, Tryz.results93, go_sem, g0, g1, g2, g3, g4, g5]) rfl ⟨rfl, HF.out⟩
end Go.Proofs.YtlcgfdijohgnpaaGreatDoor

namespace Go.Proofs.YtlcgfdijohgnpaaGreatDoor
open Go.ChangeShapes Go.WideShapes Go.ChangeAt Go.RowKit

def Added (w : World) (S : Nat) (xs : List KeyV) (w' : World) : Prop := (∃ x c, SetAt w' S x c xs ∧ (w'.cell? ⟨S, 0, none⟩ = w.cell? ⟨S, 0, none⟩ ∨ ∀ b off, x = some ⟨b, off, none⟩ → w.heap.size ≤ b)) ∧ But S w w'

theorem setAt_put {w' : World} {S g c : Nat} {x : Option Addr} {c0 : Nat} {xs ys : List KeyV} (h : SetAt w' S x c0 xs) (hk : Keys w' (some ⟨g, 0, none⟩) ys) (hg : S ≠ g) (hc : ys.length ≤ c) (hn : ys ≠ []) : SetAt (w'.setCell ⟨S, 0, none⟩ (.slice (some ⟨g, 0, none⟩) ys.length c)) S (some ⟨g, 0, none⟩) c ys := by
 have o : ∀ j, (w'.setCell ⟨S, 0, none⟩ (.slice (some ⟨g, 0, none⟩) ys.length c)).cell? ⟨g, j, none⟩ = w'.cell? ⟨g, j, none⟩ := fun j => World.cell?_setCell_other _ _ _ _ (fun e => hg (by injection e))
 refine ⟨World.cell?_setCell_same _ _ _ h.cell, fun i hi => ?_, hc, fun e => absurd e hn, by rw [World.frozen?_setCell]; exact h.free⟩
 obtain ⟨b, e, hl, c0, c1, c2, c3, c4, c5⟩ := hk i hi
 have eb : g = b := by simpa using e
 subst eb
 exact ⟨g, rfl, by simpa using hl, by rw [o]; exact c0, by rw [o]; exact c1, by rw [o]; exact c2, by rw [o]; exact c3, by rw [o]; exact c4, by rw [o]; exact c5⟩
theorem keys_new (w : World) (k : KeyV) (t : TypeId) : Keys (w.alloc (Obj.cells #[.string k.name, .int .i64 k.kind, .string k.dflt, .int .i64 k.least, .int .i64 k.most, .string k.letter] t)) (some ⟨w.heap.size, 0, none⟩) [k] := by
 obtain ⟨c0, c1, c2, c3, c4, c5, _⟩ := box6_new w k t
 intro i hi
 obtain rfl : i = 0 := by simpa using hi
 exact ⟨w.heap.size, rfl, by simp, c0, c1, c2, c3, c4, c5⟩
theorem insert_any (xs : List KeyV) (k : KeyV) (i g : Nat) (x : Option Addr) (w : World) (hx : Keys w x xs) (h0 : xs = [] → x = none) (hg : Keys w (some ⟨g, 0, none⟩) [k]) (hi : i ≤ xs.length) (hn : xs.length ≤ 999999) :
  Calls Tryz.prog 91 #[.slice x xs.length xs.length, .int .i64 i, .slice (some ⟨g, 0, none⟩) 1 1] w (InsRes w (insK xs i k)) := by
 have hgl : g < w.heap.size := by
  obtain ⟨b, e, hl, _⟩ := hg 0 (Nat.zero_lt_one)
  have eb : g = b := by simpa using e
  omega
 rcases Nat.eq_zero_or_pos xs.length with h1 | h1
 ·have e := List.eq_nil_of_length_eq_zero h1
  subst e
  obtain rfl := h0 rfl
  obtain rfl : i = 0 := by simpa using hi
  exact insert_nil k g w hg
 ·obtain ⟨b, rfl, hbl, _⟩ := hx 0 h1
  rcases Nat.lt_or_ge i xs.length with h2 | h2
  ·exact insert_mid xs k i b g w hx hg hbl hgl h2 hn
  ·obtain rfl : i = xs.length := by omega
   have h := insert_end xs k b g w hx hg h1 hn
   rw [show insK xs xs.length k = xs ++ [k] by unfold insK; simp]
   exact h

theorem Box6.other {w : World} {R S : Nat} {k : KeyV} (h : Box6 w R k) (hn : S ≠ R) (u : Value) : Box6 (w.setCell ⟨S, 0, none⟩ u) R k := by
 have c : ∀ j, (w.setCell ⟨S, 0, none⟩ u).cell? ⟨R, j, none⟩ = w.cell? ⟨R, j, none⟩ := fun j => World.cell?_setCell_other _ _ _ _ (fun e => hn (by injection e))
 exact ⟨by rw [c]; exact h.c0, by rw [c]; exact h.c1, by rw [c]; exact h.c2, by rw [c]; exact h.c3, by rw [c]; exact h.c4, by rw [c]; exact h.c5, fun j hj => by rw [World.frozen?_setCell]; exact h.fz j hj⟩
theorem add_fin {w w5 w6 : World} {S g c6 c : Nat} {x : Option Addr} {xs ys : List KeyV} {i : Nat} {k : KeyV} {o : Obj} (hk : ys = insK xs i k) (hs : SetAt w6 S x c xs) (h6 : Keys w6 (some ⟨g, 0, none⟩) (insK xs i k)) (hg : (w5.alloc o).heap.size ≤ g) (hc : (insK xs i k).length ≤ c6)
  (hb5 : Below w.heap.size w w5) (hS : S < w5.heap.size) (hb : Below (w5.alloc o).heap.size (w5.alloc o) w6) : Added w S ys (w6.setCell ⟨S, 0, none⟩ (.slice (some ⟨g, 0, none⟩) (insK xs i k).length c6)) := by
 subst hk
 have h5 : w5.heap.size ≤ (w5.alloc o).heap.size := (below_one w5 o).size
 exact ⟨⟨_, _, setAt_put hs h6 (by omega) hc (by unfold insK; simp), .inr fun b off e => by
  obtain ⟨rfl, _⟩ : g = b ∧ 0 = off := by simpa using e
  exact Nat.le_trans hb5.size (Nat.le_trans h5 hg)⟩, (But.of_below ((hb5.trans ((below_one w5 o).mono hb5.size)).trans (hb.mono (Nat.le_trans hb5.size h5)))).setCell 0 _⟩
set_option maxHeartbeats 3200000 in
set_option maxRecDepth 100000 in
theorem add_any (xs : List KeyV) (k : KeyV) (S : Nat) (x : Option Addr) (c : Nat) (w : World) (h : SetAt w S x c xs) (hs : Sorted xs) (hl : xs.length ≤ 64) (hT : Tab w) (hU : Units w) (hM : MaxI w) (h1 : k.name.size ≤ 4294967280) (h2 : k.dflt.size ≤ 4294967280) (h3 : k.letter.size ≤ 4294967280) :
  Calls Tryz.prog 66 #[.pointer (some ⟨S, 0, none⟩), kAgg k] w fun e w' => e = .returned (.int .i64 (addE xs k)) ∧ Added w S (addK xs k) w' := by
 have HS := Lib.hid h
 have HP : Hid (∀ w1, Below w.heap.size w w1 → Calls Tryz.prog 87 #[.pointer (some ⟨S, 0, none⟩), .string k.name] w1 (FoundRes xs k.name w1)) := Lib.hid fun w1 hb => place_any xs k.name S x c w1 (h.below hb) (hs.mono _) (by omega)
 have HL : Hid (∀ w1, Below w.heap.size w w1 → Calls Tryz.prog 88 #[.pointer (some ⟨S, 0, none⟩), .string k.letter] w1 fun e w' => e = .returned (oAgg (letterK xs k.letter)) ∧ Below w1.heap.size w1 w') := Lib.hid fun w1 hb => letter_any xs k.letter S x c w1 (h.below hb) (by omega)
 have HF : Hid (∀ w1, Below w.heap.size w w1 → Calls Tryz.prog 89 #[kAgg k] w1 fun e w' => e = .returned (.bool (formK k)) ∧ Below w1.heap.size w1 w') := Lib.hid fun w1 hb => hasForm_any k w1 (hT.below hb) (Nat.le_trans h1 (by decide)) (Nat.le_trans h3 (by decide))
 have HD : Hid (∀ w1, Below w.heap.size w w1 → Calls Tryz.prog 90 #[kAgg k] w1 fun e w' => e = .returned (.bool (dfltK k)) ∧ Below w1.heap.size w1 w') := Lib.hid fun w1 hb => dflt_any k w1 (hT.below hb) (hU.below hb) (hM.below hb) (Nat.le_trans h2 (by decide))
 have HC : Hid (∀ w1, Calls Tryz.prog 93 #[kAgg k] w1 fun e w' => e = .returned (kAgg k) ∧ Below w1.heap.size w1 w') := Lib.hid fun w1 => copied_any k w1 (Nat.le_trans h1 (by decide)) (Nat.le_trans h2 (by decide)) (Nat.le_trans h3 (by decide))
 have HW : Hid (∀ o, Below w.heap.size w (w.alloc o)) := Lib.hid (below_one w)
 obtain ⟨nm, kd, dl, a, b, le⟩ := k
 unfold kAgg at HF HD HC ⊢
 simp only at HP HL HF HD HC ⊢
 obtain ⟨E, hE⟩ : ∃ E, addE xs ⟨nm, kd, dl, a, b, le⟩ = E := ⟨_, rfl⟩
 obtain ⟨ys, hys⟩ : ∃ ys, addK xs ⟨nm, kd, dl, a, b, le⟩ = ys := ⟨_, rfl⟩
 have HEE := Lib.hid hE
 have HYS := Lib.hid hys
 rw [hE, hys]
 clear h hT hU hM h1 h2 h3 hE hys
 go_enter Tryz.func66, Tryz.ntmps66
 go_wp2_with fail
 refine (HP.out _ (HW.out _)).mono ?_
 rintro e w1 ⟨i, hpi, rfl, hb1⟩
 have HX1 := Lib.hid ((box6_new w ⟨nm, kd, dl, a, b, le⟩ _).below hb1)
 have HB1 := Lib.hid ((HW.out _).trans (hb1.mono (HW.out _).size))
 have HPI := Lib.hid hpi
 obtain ⟨F, hF⟩ : ∃ F, (decide (i < xs.length) && decide (cmpAt xs nm i = 0)) = F := ⟨_, rfl⟩
 have HFF : Hid (hasK xs nm = F) := Lib.hid ((found_is hs hpi).symm.trans hF)
 rw [hF]
 have c5 : w1.cell? ⟨w.heap.size, 5, none⟩ = some (.string le) := HX1.out.c5
 clear hb1 hpi hF HP
 go_wp2_with fail
 refine (HL.out _ HB1.out).mono ?_
 rintro e w2 ⟨rfl, hb2⟩
 clear c5
 have HX2 : Hid (∀ o, Box6 (w2.alloc o) w.heap.size ⟨nm, kd, dl, a, b, le⟩) := Lib.hid fun o => (HX1.out.below hb2).below (below_one w2 o)
 have HB2 : Hid (∀ o, Below w.heap.size w (w2.alloc o)) := Lib.hid fun o => (HB1.out.trans (hb2.mono HB1.out.size)).trans ((below_one w2 o).mono (Nat.le_trans HB1.out.size hb2.size))
 obtain ⟨r, hr⟩ : ∃ r, letterK xs le = r := ⟨_, rfl⟩
 have HR := Lib.hid hr
 rw [hr]
 unfold oAgg kAgg
 obtain ⟨G, hG⟩ : ∃ G, r.isSome = G := ⟨_, rfl⟩
 have HG := Lib.hid hG
 rw [hG]
 clear hb2 hr hG HL HX1 HB1
 have c0 : ∀ o, (w2.alloc o).cell? ⟨w.heap.size, 0, none⟩ = some (.string nm) := fun o => (HX2.out o).c0
 have c1 : ∀ o, (w2.alloc o).cell? ⟨w.heap.size, 1, none⟩ = some (.int .i64 kd) := fun o => (HX2.out o).c1
 have c2 : ∀ o, (w2.alloc o).cell? ⟨w.heap.size, 2, none⟩ = some (.string dl) := fun o => (HX2.out o).c2
 have c3 : ∀ o, (w2.alloc o).cell? ⟨w.heap.size, 3, none⟩ = some (.int .i64 a) := fun o => (HX2.out o).c3
 have c4 : ∀ o, (w2.alloc o).cell? ⟨w.heap.size, 4, none⟩ = some (.int .i64 b) := fun o => (HX2.out o).c4
 have c5 : ∀ o, (w2.alloc o).cell? ⟨w.heap.size, 5, none⟩ = some (.string le) := fun o => (HX2.out o).c5
 go_wp2_with fail
 refine (HF.out _ (HB2.out _)).mono ?_
 rintro e w3 ⟨rfl, hb3⟩
 clear c0 c1 c2 c3 c4 c5
 have HX3 := Lib.hid ((HX2.out _).below hb3)
 have HB3 := Lib.hid ((HB2.out _).trans (hb3.mono (HB2.out _).size))
 obtain ⟨rf, hrf⟩ : ∃ rf, formK ⟨nm, kd, dl, a, b, le⟩ = rf := ⟨_, rfl⟩
 have HRF := Lib.hid hrf
 rw [hrf]
 clear hb3 hrf HF HX2 HB2
 cases rf with
 | false =>
  have HE : Hid (E = 50 ∧ Added w S ys w3) := Lib.hid (by
   have he : addE xs ⟨nm, kd, dl, a, b, le⟩ = 50 := by unfold addE; rw [if_pos HRF.out]
   refine ⟨HEE.out.symm.trans he, ?_⟩
   rw [← HYS.out]
   unfold addK
   rw [he, if_neg (by decide)]
   exact ⟨⟨x, c, HS.out.below HB3.out, .inl (HB3.out.cell (p := ⟨S, 0, none⟩) (lt_of_cell HS.out.cell))⟩, But.of_below HB3.out⟩)
  go_wp2
  go_ret
  exact ⟨by rw [HE.out.1]; first | done | rfl, HE.out.2⟩
 | true =>
  have c0 : w3.cell? ⟨w.heap.size, 0, none⟩ = some (.string nm) := HX3.out.c0
  have c1 : w3.cell? ⟨w.heap.size, 1, none⟩ = some (.int .i64 kd) := HX3.out.c1
  have c2 : w3.cell? ⟨w.heap.size, 2, none⟩ = some (.string dl) := HX3.out.c2
  have c3 : w3.cell? ⟨w.heap.size, 3, none⟩ = some (.int .i64 a) := HX3.out.c3
  have c4 : w3.cell? ⟨w.heap.size, 4, none⟩ = some (.int .i64 b) := HX3.out.c4
  have c5 : w3.cell? ⟨w.heap.size, 5, none⟩ = some (.string le) := HX3.out.c5
  go_wp2_with fail
  refine (HD.out _ HB3.out).mono ?_
  rintro e w4 ⟨rfl, hb4⟩
  clear c0 c1 c2 c3 c4 c5
  have HX4 := Lib.hid (HX3.out.below hb4)
  have HB4 := Lib.hid (HB3.out.trans (hb4.mono HB3.out.size))
  obtain ⟨rd, hrd⟩ : ∃ rd, dfltK ⟨nm, kd, dl, a, b, le⟩ = rd := ⟨_, rfl⟩
  have HRD := Lib.hid hrd
  rw [hrd]
  clear hb4 hrd HD HX3 HB3
  have HST : Hid (E ≠ 0 → Added w S ys w4) := Lib.hid fun he => by
   rw [← HYS.out]
   unfold addK
   rw [HEE.out, if_neg he]
   exact ⟨⟨x, c, HS.out.below HB4.out, .inl (HB4.out.cell (p := ⟨S, 0, none⟩) (lt_of_cell HS.out.cell))⟩, But.of_below HB4.out⟩
  have HAE : Hid (E = if rd = false then 53 else if F = true then 51 else if G = true then 52 else if 64 ≤ xs.length then 54 else 0) := Lib.hid (by
   rw [← HEE.out]
   unfold addE
   rw [if_neg (by rw [HRF.out]; decide), HRD.out, HFF.out, HR.out, HG.out])
  cases rd with
  | false =>
   rw [if_pos rfl] at HAE
   go_wp2
   go_ret
   exact ⟨by rw [HAE.out]; first | done | rfl, HST.out (by rw [HAE.out]; decide)⟩
  | true =>
   rw [if_neg (by decide)] at HAE
   cases F with
   | true =>
    rw [if_pos rfl] at HAE
    go_wp2
    go_ret
    exact ⟨by rw [HAE.out]; first | done | rfl, HST.out (by rw [HAE.out]; decide)⟩
   | false =>
    rw [if_neg (by decide)] at HAE
    cases G with
    | true =>
     rw [if_pos rfl] at HAE
     go_wp2
     go_ret
     exact ⟨by rw [HAE.out]; first | done | rfl, HST.out (by rw [HAE.out]; decide)⟩
    | false =>
     rw [if_neg (by decide)] at HAE
     have HS4 := Lib.hid (HS.out.below HB4.out)
     have s0 : w4.cell? ⟨S, 0, none⟩ = some (.slice x xs.length c) := HS4.out.cell
     by_cases hm : 64 ≤ xs.length
     ·have q1 : (64 : Int) ≤ (xs.length : Int) := by omega
      rw [if_pos hm] at HAE
      clear hm
      go_wp2
      go_ret
      exact ⟨by rw [HAE.out]; first | done | rfl, HST.out (by rw [HAE.out]; decide)⟩
     ·have q1 : ¬ (64 : Int) ≤ (xs.length : Int) := by omega
      rw [if_neg hm] at HAE
      have hxl : xs.length ≤ 999999 := by omega
      have HAK : Hid (ys = insK xs i ⟨nm, kd, dl, a, b, le⟩) := Lib.hid (by
       rw [← HYS.out]
       unfold addK
       rw [HEE.out, HAE.out, if_pos rfl, place_one (posK_is (hs.mono _)) HPI.out])
      clear hm HST
      have c0 : w4.cell? ⟨w.heap.size, 0, none⟩ = some (.string nm) := HX4.out.c0
      have c1 : w4.cell? ⟨w.heap.size, 1, none⟩ = some (.int .i64 kd) := HX4.out.c1
      have c2 : w4.cell? ⟨w.heap.size, 2, none⟩ = some (.string dl) := HX4.out.c2
      have c3 : w4.cell? ⟨w.heap.size, 3, none⟩ = some (.int .i64 a) := HX4.out.c3
      have c4 : w4.cell? ⟨w.heap.size, 4, none⟩ = some (.int .i64 b) := HX4.out.c4
      have c5 : w4.cell? ⟨w.heap.size, 5, none⟩ = some (.string le) := HX4.out.c5
      have HIL : Hid (i ≤ xs.length) := Lib.hid (And.left (show i ≤ xs.length ∧ _ from HPI.out))
      have HSR : Hid (S ≠ w.heap.size) := Lib.hid (by have := lt_of_cell HS.out.cell; omega)
      have HX5 := HX4
      have hf4 : w4.frozen? ⟨S, 0, none⟩ = false := HS4.out.free
      clear HX4
      go_wp2_with fail
      go_region_law (first
        | (go_simp; (with_reducible refine (clip_any x _ c _ HS4.out.room).mono ?_); rintro e w' ⟨rfl, rfl⟩; dsimp only)
        | (go_simp; (with_reducible refine (HC.out _).mono ?_); rintro e w5 ⟨rfl, hb5⟩; have hs5 := HS4.out.below ((below_drewN w4 1).trans hb5); have HS5 := Lib.hid hs5; have hx5 := HX5.out.below ((below_drewN w4 1).trans hb5); have HX6 := Lib.hid hx5; have p0 : ∀ o, (w5.alloc o).cell? ⟨w.heap.size, 0, none⟩ = some (.string nm) := fun o => (HX6.out.below (below_one w5 o)).c0; have p1 : ∀ o, (w5.alloc o).cell? ⟨w.heap.size, 1, none⟩ = some (.int .i64 kd) := fun o => (HX6.out.below (below_one w5 o)).c1; have p2 : ∀ o, (w5.alloc o).cell? ⟨w.heap.size, 2, none⟩ = some (.string dl) := fun o => (HX6.out.below (below_one w5 o)).c2; have p3 : ∀ o, (w5.alloc o).cell? ⟨w.heap.size, 3, none⟩ = some (.int .i64 a) := fun o => (HX6.out.below (below_one w5 o)).c3; have p4 : ∀ o, (w5.alloc o).cell? ⟨w.heap.size, 4, none⟩ = some (.int .i64 b) := fun o => (HX6.out.below (below_one w5 o)).c4; have p5 : ∀ o, (w5.alloc o).cell? ⟨w.heap.size, 5, none⟩ = some (.string le) := fun o => (HX6.out.below (below_one w5 o)).c5; have z0 := hs5.cell; have zf := hs5.free; obtain ⟨d0, d1, d2, d3, d4, d5, _⟩ := hx5; have HB5 := Lib.hid (HB4.out.trans (((below_drewN w4 1).trans hb5).mono HB4.out.size)); have HK5 : Hid (∀ o, Keys (w5.alloc o) x xs) := Lib.hid fun o => hs5.keys.below (below_one w5 o); dsimp only)
        | (go_simp; (with_reducible refine (insert_any xs ⟨nm, kd, dl, a, b, le⟩ i w5.heap.size x _ (HK5.out _) (fun e => (HS5.out.none_ e).1) (keys_new w5 ⟨nm, kd, dl, a, b, le⟩ _) HIL.out hxl).mono ?_); rintro e w6 ⟨g, c6, rfl, hg6, hc6, hk6, hb6⟩; have hs6 := (HS5.out.below (below_one w5 _)).below hb6; have hx6 := (HX6.out.below (below_one w5 _)).below hb6; have y0 := hs6.cell; have yf := hs6.free; obtain ⟨u0, u1, u2, u3, u4, u5, _⟩ := hx6.other HSR.out (.slice (some ⟨g, 0, none⟩) (insK xs i ⟨nm, kd, dl, a, b, le⟩).length c6); obtain ⟨e0, e1, e2, e3, e4, e5, _⟩ := hx6; have HFIN := Lib.hid (add_fin HAK.out hs6 hk6 hg6 hc6 HB5.out (lt_of_cell z0) hb6); dsimp only))
      all_goals
       go_wp2
       go_ret
       exact ⟨by rw [HAE.out]; first | done | rfl, HFIN.out⟩
end Go.Proofs.YtlcgfdijohgnpaaGreatDoor

namespace Go.Proofs.YtlcgfdijohgnpaaGreatDoor
open Go.ChangeShapes Go.WideShapes Go.ChangeAt Go.RowKit

def netL : List KeyV := [⟨⟨#[110, 101, 116, 46, 104, 111, 115, 116]⟩, 5, ⟨#[108, 111, 99, 97, 108, 104, 111, 115, 116]⟩, 0, 0, ⟨#[]⟩⟩,
 ⟨⟨#[110, 101, 116, 46, 112, 101, 101, 114, 115]⟩, 6, ⟨#[]⟩, 0, 16, ⟨#[]⟩⟩,
 ⟨⟨#[110, 101, 116, 46, 112, 111, 114, 116]⟩, 2, ⟨#[56, 48, 56, 48]⟩, 1, 65535, ⟨#[112]⟩⟩,
 ⟨⟨#[110, 101, 116, 46, 116, 105, 109, 101, 111, 117, 116]⟩, 4, ⟨#[51, 48, 115]⟩, 1, 3600, ⟨#[]⟩⟩,
 ⟨⟨#[110, 101, 116, 46, 117, 114, 108]⟩, 5, ⟨#[104, 116, 116, 112, 58, 47, 47, 36, 123, 110, 101, 116, 46, 104, 111, 115, 116, 125, 58, 36, 123, 110, 101, 116, 46, 112, 111, 114, 116, 125]⟩, 0, 0, ⟨#[]⟩⟩]
def logL : List KeyV := [⟨⟨#[108, 111, 103, 46, 102, 105, 108, 101]⟩, 5, ⟨#[36, 123, 115, 116, 111, 114, 101, 46, 100, 105, 114, 125, 47, 108, 111, 103]⟩, 0, 0, ⟨#[]⟩⟩,
 ⟨⟨#[108, 111, 103, 46, 107, 101, 101, 112]⟩, 4, ⟨#[55, 100]⟩, 1, 2592000, ⟨#[]⟩⟩,
 ⟨⟨#[108, 111, 103, 46, 108, 101, 118, 101, 108]⟩, 2, ⟨#[50]⟩, 0, 5, ⟨#[118]⟩⟩]
def sbL : List KeyV := [⟨⟨#[115, 116, 111, 114, 101, 46, 98, 108, 111, 99, 107, 115]⟩, 2, ⟨#[54, 52]⟩, 8, 4096, ⟨#[98]⟩⟩,
 ⟨⟨#[115, 116, 111, 114, 101, 46, 99, 97, 99, 104, 101]⟩, 3, ⟨#[52, 109]⟩, 0, 1073741824, ⟨#[99]⟩⟩,
 ⟨⟨#[115, 116, 111, 114, 101, 46, 100, 105, 114]⟩, 5, ⟨#[47, 118, 97, 114, 47, 116, 105, 110, 100, 101, 114]⟩, 0, 0, ⟨#[100]⟩⟩,
 ⟨⟨#[115, 116, 111, 114, 101, 46, 112, 97, 103, 101]⟩, 3, ⟨#[52, 107]⟩, 512, 65536, ⟨#[]⟩⟩,
 ⟨⟨#[98, 111, 111, 116, 46, 100, 114, 121]⟩, 1, ⟨#[102, 97, 108, 115, 101]⟩, 0, 0, ⟨#[110]⟩⟩,
 ⟨⟨#[98, 111, 111, 116, 46, 108, 105, 109, 105, 116]⟩, 2, ⟨#[48]⟩, 0, 1024, ⟨#[]⟩⟩,
 ⟨⟨#[98, 111, 111, 116, 46, 115, 101, 114, 118, 105, 99, 101, 115]⟩, 6, ⟨#[108, 111, 103, 44, 110, 101, 116]⟩, 0, 16, ⟨#[115]⟩⟩,
 ⟨⟨#[98, 111, 111, 116, 46, 119, 111, 114, 107, 101, 114, 115]⟩, 2, ⟨#[48]⟩, 0, 64, ⟨#[119]⟩⟩]
def stdL : List KeyV := [⟨⟨#[98, 111, 111, 116, 46, 100, 114, 121]⟩, 1, ⟨#[102, 97, 108, 115, 101]⟩, 0, 0, ⟨#[110]⟩⟩,
 ⟨⟨#[98, 111, 111, 116, 46, 108, 105, 109, 105, 116]⟩, 2, ⟨#[48]⟩, 0, 1024, ⟨#[]⟩⟩,
 ⟨⟨#[98, 111, 111, 116, 46, 115, 101, 114, 118, 105, 99, 101, 115]⟩, 6, ⟨#[108, 111, 103, 44, 110, 101, 116]⟩, 0, 16, ⟨#[115]⟩⟩,
 ⟨⟨#[98, 111, 111, 116, 46, 119, 111, 114, 107, 101, 114, 115]⟩, 2, ⟨#[48]⟩, 0, 64, ⟨#[119]⟩⟩,
 ⟨⟨#[108, 111, 103, 46, 102, 105, 108, 101]⟩, 5, ⟨#[36, 123, 115, 116, 111, 114, 101, 46, 100, 105, 114, 125, 47, 108, 111, 103]⟩, 0, 0, ⟨#[]⟩⟩,
 ⟨⟨#[108, 111, 103, 46, 107, 101, 101, 112]⟩, 4, ⟨#[55, 100]⟩, 1, 2592000, ⟨#[]⟩⟩,
 ⟨⟨#[108, 111, 103, 46, 108, 101, 118, 101, 108]⟩, 2, ⟨#[50]⟩, 0, 5, ⟨#[118]⟩⟩,
 ⟨⟨#[110, 101, 116, 46, 104, 111, 115, 116]⟩, 5, ⟨#[108, 111, 99, 97, 108, 104, 111, 115, 116]⟩, 0, 0, ⟨#[]⟩⟩,
 ⟨⟨#[110, 101, 116, 46, 112, 101, 101, 114, 115]⟩, 6, ⟨#[]⟩, 0, 16, ⟨#[]⟩⟩,
 ⟨⟨#[110, 101, 116, 46, 112, 111, 114, 116]⟩, 2, ⟨#[56, 48, 56, 48]⟩, 1, 65535, ⟨#[112]⟩⟩,
 ⟨⟨#[110, 101, 116, 46, 116, 105, 109, 101, 111, 117, 116]⟩, 4, ⟨#[51, 48, 115]⟩, 1, 3600, ⟨#[]⟩⟩,
 ⟨⟨#[110, 101, 116, 46, 117, 114, 108]⟩, 5, ⟨#[104, 116, 116, 112, 58, 47, 47, 36, 123, 110, 101, 116, 46, 104, 111, 115, 116, 125, 58, 36, 123, 110, 101, 116, 46, 112, 111, 114, 116, 125]⟩, 0, 0, ⟨#[]⟩⟩,
 ⟨⟨#[115, 116, 111, 114, 101, 46, 98, 108, 111, 99, 107, 115]⟩, 2, ⟨#[54, 52]⟩, 8, 4096, ⟨#[98]⟩⟩,
 ⟨⟨#[115, 116, 111, 114, 101, 46, 99, 97, 99, 104, 101]⟩, 3, ⟨#[52, 109]⟩, 0, 1073741824, ⟨#[99]⟩⟩,
 ⟨⟨#[115, 116, 111, 114, 101, 46, 100, 105, 114]⟩, 5, ⟨#[47, 118, 97, 114, 47, 116, 105, 110, 100, 101, 114]⟩, 0, 0, ⟨#[100]⟩⟩,
 ⟨⟨#[115, 116, 111, 114, 101, 46, 112, 97, 103, 101]⟩, 3, ⟨#[52, 107]⟩, 512, 65536, ⟨#[]⟩⟩]
theorem std_fold : (netL ++ logL ++ sbL).foldl addK [] = stdL := by kernel_rfl
def Laid (w : World) (xs : List KeyV) (e : Ending) (w' : World) : Prop := ∃ g, e = .returned (.slice (some ⟨g, 0, none⟩) xs.length xs.length) ∧ Keys w' (some ⟨g, 0, none⟩) xs ∧ w.heap.size ≤ g ∧ Below w.heap.size w w'
theorem keys_flat (w : World) (xs : List KeyV) (t : TypeId) : Keys (w.alloc (Obj.cells (flat xs).toArray t)) (some ⟨w.heap.size, 0, none⟩) xs :=
 Keys.of_block (t := t) (fr := (0, 0)) (heap_alloc_new w _) (fun j v hv => by rw [List.getElem?_toArray]; exact hv)
set_option maxHeartbeats 1600000 in
set_option maxRecDepth 100000 in
theorem netKeys_any (w : World) : Calls Tryz.prog 33 #[] w (Laid w netL) := by
 have HE : Hid (∀ t, Laid w netL (.returned (.slice (some ⟨w.heap.size, 0, none⟩) netL.length netL.length)) (w.alloc (Obj.cells (flat netL).toArray t))) := Lib.hid fun t => ⟨_, rfl, keys_flat w netL t, Nat.le_refl _, below_one w _⟩
 go_enter Tryz.func33, Tryz.ntmps33
 go_wp2
 go_ret
 exact HE.out _
set_option maxHeartbeats 1600000 in
set_option maxRecDepth 100000 in
theorem logKeys_any (w : World) : Calls Tryz.prog 34 #[] w (Laid w logL) := by
 have HE : Hid (∀ t, Laid w logL (.returned (.slice (some ⟨w.heap.size, 0, none⟩) logL.length logL.length)) (w.alloc (Obj.cells (flat logL).toArray t))) := Lib.hid fun t => ⟨_, rfl, keys_flat w logL t, Nat.le_refl _, below_one w _⟩
 go_enter Tryz.func34, Tryz.ntmps34
 go_wp2
 go_ret
 exact HE.out _
set_option maxHeartbeats 1600000 in
set_option maxRecDepth 100000 in
theorem storeAndBootKeys_any (w : World) : Calls Tryz.prog 35 #[] w (Laid w sbL) := by
 have HE : Hid (∀ t, Laid w sbL (.returned (.slice (some ⟨w.heap.size, 0, none⟩) sbL.length sbL.length)) (w.alloc (Obj.cells (flat sbL).toArray t))) := Lib.hid fun t => ⟨_, rfl, keys_flat w sbL t, Nat.le_refl _, below_one w _⟩
 go_enter Tryz.func35, Tryz.ntmps35
 go_wp2
 go_ret
 exact HE.out _
end Go.Proofs.YtlcgfdijohgnpaaGreatDoor

namespace Go.Proofs.YtlcgfdijohgnpaaGreatDoor
open Go.ChangeShapes Go.WideShapes Go.ChangeAt Go.RowKit

set_option maxRecDepth 100000 in
theorem new_any (w : World) : Calls Tryz.prog 65 #[] w fun e w' => e = .returned (.pointer (some ⟨w.heap.size, 0, none⟩)) ∧ SetAt w' w.heap.size none 0 [] ∧ Below w.heap.size w w' := by
 have HE : Hid (∀ t, SetAt (w.alloc (Obj.cells #[.slice none 0 0] t)) w.heap.size none 0 []) := Lib.hid fun t => ⟨by simp, Keys.nil_ _ _, Nat.le_refl _, fun _ => ⟨rfl, rfl⟩, by simp⟩
 go_enter Tryz.func65, Tryz.ntmps65
 go_wp2
 go_ret
 exact ⟨rfl, HE.out _, below_one w _⟩
def ListsAt (w : World) (L : Nat) (ls : List (List KeyV)) : Prop := L < w.heap.size ∧ ∀ t (h : t < ls.length), ∃ x c, w.cell? ⟨L, t, none⟩ = some (.slice x (ls[t]'h).length c) ∧ Keys w x (ls[t]'h)
theorem ListsAt.below {w w' : World} {L : Nat} {ls : List (List KeyV)} (h : ListsAt w L ls) (hb : Below w.heap.size w w') : ListsAt w' L ls :=
 ⟨Nat.lt_of_lt_of_le h.1 hb.size, fun t ht => by
  obtain ⟨x, c, h1, h2⟩ := h.2 t ht
  exact ⟨x, c, by rw [hb.cell (p := ⟨L, t, none⟩) h.1]; exact h1, h2.below hb⟩⟩
structure SetIn (w0 w : World) (S : Nat) (xs : List KeyV) : Prop where
 set : ∃ x c, SetAt w S x c xs
 below : Below w0.heap.size w0 w
 new : w0.heap.size ≤ S
 sorted : Sorted xs
 len : xs.length ≤ 64
theorem SetIn.below' {w0 w w' : World} {S : Nat} {xs : List KeyV} (h : SetIn w0 w S xs) (hb : Below w.heap.size w w') : SetIn w0 w' S xs := by
 obtain ⟨⟨x, c, h1⟩, h2, h3, h4, h5⟩ := h
 exact ⟨⟨x, c, h1.below hb⟩, h2.trans (hb.mono h2.size), h3, h4, h5⟩
theorem SetIn.added {w0 w w' : World} {S : Nat} {xs : List KeyV} {k : KeyV} (h : SetIn w0 w S xs) (ha : Added w S (addK xs k) w') : SetIn w0 w' S (addK xs k) :=
 ⟨ha.1.imp fun _ h => h.imp fun _ h => h.1, h.below.trans (ha.2.below h.new h.below.size), h.new, addK_sorted k h.sorted, addK_len xs k h.len⟩
def Small (k : KeyV) : Prop := k.name.size ≤ 4294967280 ∧ k.dflt.size ≤ 4294967280 ∧ k.letter.size ≤ 4294967280
theorem fold_step (ls : List KeyV) (acc : List KeyV) (t : Nat) (h : t < ls.length) : (ls.take (t + 1)).foldl addK acc = addK ((ls.take t).foldl addK acc) ls[t] := by
 rw [List.take_succ_eq_append_getElem h, List.foldl_append]; rfl
theorem fold_list (ls : List (List KeyV)) (t : Nat) (h : t < ls.length) : (ls.take (t + 1)).flatten.foldl addK [] = ls[t].foldl addK ((ls.take t).flatten.foldl addK []) := by
 rw [List.take_succ_eq_append_getElem h, List.flatten_append, List.foldl_append]; simp

set_option maxHeartbeats 3200000 in
set_option maxRecDepth 100000 in
theorem together_any (ls : List (List KeyV)) (L c : Nat) (w : World) (hL : ListsAt w L ls) (hn : ls.length ≤ 1000) (hk : ∀ l ∈ ls, l.length ≤ 1000 ∧ ∀ k ∈ l, Small k) (hT : Tab w) (hU : Units w) (hM : MaxI w) :
  Calls Tryz.prog 32 #[.slice (some ⟨L, 0, none⟩) ls.length c] w fun e w' => ∃ S, e = .returned (.pointer (some ⟨S, 0, none⟩)) ∧ SetIn w w' S (ls.flatten.foldl addK []) := by
 have HL := Lib.hid hL
 have HK := Lib.hid hk
 have HS := Lib.hid (And.intro hT (And.intro hU hM))
 obtain ⟨n, hn'⟩ : ∃ n, ls.length = n := ⟨_, rfl⟩
 have HN := Lib.hid hn'
 rw [hn'] at hn ⊢
 clear hL hk hT hU hM hn'
 go_enter Tryz.func32, Tryz.ntmps32
 go_wp2_with fail
 refine (new_any _).mono ?_
 rintro e w1 ⟨rfl, hs1, hb1⟩
 have H1 : Hid (SetIn w w1 w.heap.size ((ls.take 0).flatten.foldl addK [])) := Lib.hid ⟨⟨_, _, hs1⟩, hb1, Nat.le_refl _, fun a b hb => absurd hb (by simp), by simp⟩
 obtain ⟨S, hS⟩ : ∃ S, w.heap.size = S := ⟨_, rfl⟩
 rw [hS] at H1 ⊢
 clear hs1 hb1 hS
 go_wp2
 go_loopw [11, 5, 7] (fun i _ _ wr => ∃ t : Nat, i = .int .i64 t ∧ t ≤ n ∧ Hid (SetIn w wr S ((ls.take t).flatten.foldl addK []))) (fun i _ _ _ => n - (intOf i).toNat)
 case atStart => exact ⟨0, rfl, by omega, H1⟩
 case round =>
  clear H1
  obtain ⟨t, rfl, ht, HI⟩ := hrel
  by_cases hlt : t < n
  ·have htl : t < ls.length := by rw [HN.out]; exact hlt
   obtain ⟨x, c1, hc0, hkx⟩ := HL.out.2 t htl
   have hc1 := (HI.out.below.cell (p := ⟨L, t, none⟩) HL.out.1).trans hc0
   have HX := Lib.hid hkx
   have HF := Lib.hid (fold_list ls t htl)
   have HM := Lib.hid (HK.out _ (List.getElem_mem htl))
   clear hc0 hkx
   generalize ls[t] = l at hc1 HX HF HM
   have hl1 : l.length ≤ 1000 := HM.out.1
   obtain ⟨m, hm⟩ : ∃ m, l.length = m := ⟨_, rfl⟩
   have HLM := Lib.hid hm
   rw [hm] at hc1 hl1
   have q1 : (0 : Int) ≤ t := by omega
   have q2 : (t : Int) < n := by omega
   have HJ : Hid (SetIn w wr S ((l.take 0).foldl addK ((ls.take t).flatten.foldl addK []))) := HI
   generalize (ls.take t).flatten.foldl addK [] = acc at HF HJ HI
   obtain ⟨wo, rfl⟩ : ∃ wo : World, wo = wr := ⟨_, rfl⟩
   clear htl hm
   go_wp2
   go_loopw [17, 7] (fun j _ wq => ∃ q : Nat, j = .int .i64 q ∧ q ≤ m ∧ Hid (SetIn w wq S ((l.take q).foldl addK acc))) (fun j _ _ => m - (intOf j).toNat)
   case atStart => exact ⟨0, rfl, by omega, HJ⟩
   case round =>
    clear HJ HI
    obtain ⟨q, rfl, hq, HQ⟩ := hrel
    by_cases hlq : q < m
    ·have hql : q < l.length := by rw [HLM.out]; exact hlq
     obtain ⟨bk, hxe, hbl, c0, c1', c2, c3, c4, c5⟩ := (HX.out.below HQ.out.below) q hql
     have HKL := Lib.hid (HM.out.2 _ (List.getElem_mem hql))
     have HFS := Lib.hid (fold_step l acc q hql)
     generalize l[q] = k at c0 c1' c2 c3 c4 c5 HKL HFS
     have HADD : Hid (∀ o, Calls Tryz.prog 66 #[.pointer (some ⟨S, 0, none⟩), kAgg k] (wr.alloc o) fun e w' => e = .returned (.int .i64 (addE ((l.take q).foldl addK acc) k)) ∧ Added (wr.alloc o) S (addK ((l.take q).foldl addK acc) k) w') := Lib.hid fun o => by
      have h := HQ.out.below' (below_one wr o)
      obtain ⟨y, cy, hy⟩ := h.set
      exact add_any _ k S y cy _ hy h.sorted h.len (HS.out.1.below h.below) (HS.out.2.1.below h.below) (HS.out.2.2.below h.below) HKL.out.1 HKL.out.2.1 HKL.out.2.2
     obtain ⟨kn, kk, kd, kl, km, kt⟩ := k
     unfold kAgg at HADD
     simp only at HADD
     simp only at c0 c1' c2 c3 c4 c5
     have r1 : (0 : Int) ≤ q := by omega
     have r2 : (q : Int) < m := by omega
     clear hql
     subst hxe
     go_wp2_with fail
     refine (HADD.out _).mono ?_
     rintro e w9 ⟨rfl, ha9⟩
     have HN9 : Hid (SetIn w w9 S ((l.take (q + 1)).foldl addK acc)) := Lib.hid (by rw [HFS.out]; exact (HQ.out.below' (below_one wr _)).added ha9)
     clear ha9
     go_wp2
     go_roundw
     case rel => exact ⟨q + 1, by go_num, by omega, HN9⟩
     case measure => simp [intOf]; omega
    ·go_wp2
     go_roundw
     case rel => exact ⟨t + 1, by go_num, by omega, Lib.hid (by rw [HF.out, ← List.take_of_length_le (l := l) (i := q) (by rw [HLM.out]; omega)]; exact HQ.out)⟩
     case measure => simp [intOf]; omega
  ·have e : t = n := by omega
   subst e
   have HE : Hid (SetIn w wr S (ls.flatten.foldl addK [])) := Lib.hid (by
    have := HI.out
    rw [← HN.out, List.take_length] at this
    exact this)
   have q2 : ¬ (t : Int) < t := by omega
   go_wp2
   go_ret
   exact ⟨S, rfl, HE.out⟩
end Go.Proofs.YtlcgfdijohgnpaaGreatDoor

namespace Go.Proofs.YtlcgfdijohgnpaaGreatDoor
open Go.ChangeShapes Go.WideShapes Go.ChangeAt Go.RowKit

theorem std_small : ∀ l ∈ [netL, logL, sbL], l.length ≤ 1000 ∧ ∀ k ∈ l, Small k := by
 have h : ([netL, logL, sbL].all fun l => decide (l.length ≤ 1000) && l.all fun k => decide (k.name.size ≤ 4294967280) && (decide (k.dflt.size ≤ 4294967280) && decide (k.letter.size ≤ 4294967280))) = true := by kernel_rfl
 intro l hl
 have h1 := List.all_eq_true.1 h l hl
 simp only [Bool.and_eq_true, decide_eq_true_eq] at h1
 refine ⟨h1.1, fun k hk => ?_⟩
 have h2 := List.all_eq_true.1 h1.2 k hk
 simp only [Bool.and_eq_true, decide_eq_true_eq] at h2
 exact h2
set_option maxHeartbeats 1600000 in
set_option maxRecDepth 100000 in
theorem standard_any (w : World) (hT : Tab w) (hU : Units w) (hM : MaxI w) : Calls Tryz.prog 16 #[] w fun e w' => ∃ S, e = .returned (.pointer (some ⟨S, 0, none⟩)) ∧ SetIn w w' S stdL := by
 have HT : Hid (∀ w3, Below w.heap.size w w3 → ∀ L c, ListsAt w3 L [netL, logL, sbL] → Calls Tryz.prog 32 #[.slice (some ⟨L, 0, none⟩) 3 c] w3 fun e w' => ∃ S, e = .returned (.pointer (some ⟨S, 0, none⟩)) ∧ SetIn w3 w' S stdL) := Lib.hid fun w3 hb L c hl => by
  have h := together_any [netL, logL, sbL] L c w3 hl (by decide) std_small (hT.below hb) (hU.below hb) (hM.below hb)
  rw [show [netL, logL, sbL].flatten = netL ++ logL ++ sbL by simp, std_fold] at h
  exact h
 clear hT hU hM
 go_enter Tryz.func16, Tryz.ntmps16
 go_wp2_with fail
 refine (netKeys_any _).mono ?_
 rintro e w1 ⟨g1, rfl, hk1, hn1, hb1⟩
 rw [show netL.length = 5 from rfl]
 go_wp2_with fail
 refine (logKeys_any _).mono ?_
 rintro e w2 ⟨g2, rfl, hk2, hn2, hb2⟩
 rw [show logL.length = 3 from rfl]
 go_wp2_with fail
 refine (storeAndBootKeys_any _).mono ?_
 rintro e w3 ⟨g3, rfl, hk3, hn3, hb3⟩
 rw [show sbL.length = 8 from rfl]
 have HB3 : Hid (Below w.heap.size w w3) := Lib.hid ((hb1.trans (hb2.mono hb1.size)).trans (hb3.mono (Nat.le_trans hb1.size hb2.size)))
 have HL : Hid (∀ t, ListsAt (w3.alloc (Obj.cells #[.slice (some ⟨g1, 0, none⟩) 5 5, .slice (some ⟨g2, 0, none⟩) 3 3, .slice (some ⟨g3, 0, none⟩) 8 8] t)) w3.heap.size [netL, logL, sbL]) := Lib.hid fun t => by
  refine ⟨by simp, fun i hi => ?_⟩
  have h3 : i = 0 ∨ i = 1 ∨ i = 2 := by simp at hi; omega
  rcases h3 with rfl | rfl | rfl
  ·exact ⟨some ⟨g1, 0, none⟩, 5, by simp; rfl, ((hk1.below hb2).below hb3).below (below_one _ _)⟩
  ·exact ⟨some ⟨g2, 0, none⟩, 3, by simp; rfl, (hk2.below hb3).below (below_one _ _)⟩
  ·exact ⟨some ⟨g3, 0, none⟩, 8, by simp; rfl, hk3.below (below_one _ _)⟩
 clear hk1 hn1 hb1 hk2 hn2 hb2 hk3 hn3 hb3
 go_wp2_with fail
 refine (HT.out _ (HB3.out.trans ((below_one w3 _).mono HB3.out.size)) _ _ (HL.out _)).mono ?_
 rintro e w4 ⟨S, rfl, hs⟩
 have HE : Hid (SetIn w w4 S stdL) := Lib.hid (by
  have hb0 := HB3.out.trans ((below_one w3 (Obj.cells #[.slice (some ⟨g1, 0, none⟩) 5 5, .slice (some ⟨g2, 0, none⟩) 3 3, .slice (some ⟨g3, 0, none⟩) 8 8] 77)).mono HB3.out.size)
  exact ⟨hs.set, HB3.out.trans (((below_one w3 _).mono HB3.out.size).trans (hs.below.mono hb0.size)), Nat.le_trans hb0.size hs.new, hs.sorted, hs.len⟩)
 clear hs
 go_wp2
 go_ret
 exact ⟨S, rfl, HE.out⟩

set_option maxHeartbeats 1600000 in
set_option maxRecDepth 100000 in
theorem clone6_any (xs : List KeyV) (b c : Nat) (w : World) (hx : Keys w (some ⟨b, 0, none⟩) xs) (h0 : 0 < xs.length) (hn : xs.length ≤ 1000000) :
  Calls Tryz.prog 94 #[.slice (some ⟨b, 0, none⟩) xs.length c] w (InsRes w xs) := by
 have hg : ∀ t, ∃ c' cur, (∀ ty, (Builtin.append_ #[77, 77] ty #[.slice (some ⟨w.heap.size, 0, none⟩) 0 0, .slice (some ⟨b, 0, none⟩) xs.length c]).run Tryz.prog (w.alloc (Obj.cells #[] t)) = .ok (.slice (some ⟨w.heap.size + 1, 0, none⟩) xs.length c') ((w.alloc (Obj.cells #[] t)).drew.alloc (.cells cur 90))) ∧ InsRes w xs (.returned (.slice (some ⟨w.heap.size + 1, 0, none⟩) xs.length c')) ((w.alloc (Obj.cells #[] t)).drew.alloc (.cells cur 90)) := fun t => by
  have hb := below_one w (Obj.cells #[] t)
  obtain ⟨c', cur, hr, h1, _, h3⟩ := grow_run (w.alloc (Obj.cells #[] t)) w.heap.size 0 0 [] rfl (fun j v hv => by simp at hv) b 0 xs.length c (flat xs) (flat_len xs) (fun j v hv => by rw [Nat.zero_add]; exact (hx.below hb).flat j v hv) 0 (by omega) (by omega)
  rw [Nat.zero_add] at hr h1
  have hsz : (w.alloc (Obj.cells #[] t)).heap.size = w.heap.size + 1 := by simp
  rw [hsz] at hr
  refine ⟨c', cur, hr, _, c', rfl, Nat.le_succ _, h1, ?_, hb.trans ((below_drew_alloc _ _).mono hb.size)⟩
  rw [← hsz]
  exact Keys.of_block (t := 90) (fr := (0, 0)) (heap_alloc_new (w.alloc (Obj.cells #[] t)).drew _) h3
 obtain ⟨c', cur, hr, hE⟩ := hg 90
 have HR := Lib.hid hr
 have HE := Lib.hid hE
 clear hr hE hx hg
 generalize xs.length = n at *
 have hq : ∀ (w : World) (a : Option Addr) (n c n' c' : Nat), (binOp .eql 77 (.slice a n c) (.slice none n' c')).run Tryz.prog w = .ok (.bool a.isNone) w := fun w a n c n' c' => Lib.run_eql_slice_nil w _ _ a n c n' c' Tryz.underlying77
 go_enter Tryz.func94, Tryz.ntmps94
 go_wp2_with (at_builtin; refine wpList_append_eq rfl _ _ _ _ rfl _ _ _ rfl rfl (HR.out _) ?_)
 go_ret
 exact HE.out
set_option maxRecDepth 100000 in
theorem all_any (xs : List KeyV) (S : Nat) (x : Option Addr) (c : Nat) (w : World) (h : SetAt w S x c xs) (h0 : 0 < xs.length) (hn : xs.length ≤ 1000000) :
  Calls Tryz.prog 67 #[.pointer (some ⟨S, 0, none⟩)] w (InsRes w xs) := by
 have hc := h.cell
 obtain ⟨b, hxe, _⟩ := h.keys 0 h0
 subst hxe
 have HC := Lib.hid (clone6_any xs b c w h.keys h0 hn)
 clear h
 go_enter Tryz.func67, Tryz.ntmps67
 go_wp2_with fail
 refine HC.out.mono ?_
 rintro e w' ⟨g, c', rfl, h1, h2, h3, h4⟩
 have HE : Hid (InsRes w xs (.returned (.slice (some ⟨g, 0, none⟩) xs.length c')) w') := Lib.hid ⟨g, c', rfl, h1, h2, h3, h4⟩
 clear h1 h2 h3 h4 HC
 go_wp2
 go_ret
 exact HE.out
end Go.Proofs.YtlcgfdijohgnpaaGreatDoor
