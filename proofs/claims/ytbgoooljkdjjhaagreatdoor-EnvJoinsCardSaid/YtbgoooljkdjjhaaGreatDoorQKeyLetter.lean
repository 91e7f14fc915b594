/-
  KeyFind, ValueLists, KeyLetter.
-/
import Derived.Test.YtbgoooljkdjjhaaGreatDoorQKeyPlace
import Derived.Test.YtbgoooljkdjjhaaGreatDoorQValuePrint
import Derived.Test.YtbgoooljkdjjhaaGreatDoorQValueSame
import Derived.Deep.RegionHeld3
import Derived.Test.YtbgoooljkdjjhaaGreatDoorQValueRight
namespace Go.Proofs.YtbgoooljkdjjhaaGreatDoor
open Go.ChangeShapes Go.WideShapes Go.ChangeAt Go.RowKit

/-- A definition in its block: six cells, none of them frozen. -/
structure Box6 (w : World) (R : Nat) (k : KeyV) : Prop where
  c0 : w.cell? ⟨R, 0, none⟩ = some (.string k.name)
  c1 : w.cell? ⟨R, 1, none⟩ = some (.int .i64 k.kind)
  c2 : w.cell? ⟨R, 2, none⟩ = some (.string k.dflt)
  c3 : w.cell? ⟨R, 3, none⟩ = some (.int .i64 k.least)
  c4 : w.cell? ⟨R, 4, none⟩ = some (.int .i64 k.most)
  c5 : w.cell? ⟨R, 5, none⟩ = some (.string k.letter)
  fz : ∀ j, j < 6 → w.frozen? ⟨R, j, none⟩ = false
theorem Box6.lt {w : World} {R : Nat} {k : KeyV} (h : Box6 w R k) : R < w.heap.size := lt_of_cell h.c0
theorem Box6.below {w w' : World} {R : Nat} {k : KeyV} (h : Box6 w R k) (hb : Below w.heap.size w w') : Box6 w' R k := by
  have hl := h.lt
  obtain ⟨h0, h1, h2, h3, h4, h5, hf⟩ := h
  exact ⟨by rw [hb.cell hl]; exact h0, by rw [hb.cell hl]; exact h1, by rw [hb.cell hl]; exact h2, by rw [hb.cell hl]; exact h3, by rw [hb.cell hl]; exact h4, by rw [hb.cell hl]; exact h5, fun j hj => by rw [hb.frozen hl]; exact hf j hj⟩
theorem box6_new (w : World) (k : KeyV) (t : TypeId) : Box6 (w.alloc (Obj.cells #[.string k.name, .int .i64 k.kind, .string k.dflt, .int .i64 k.least, .int .i64 k.most, .string k.letter] t)) w.heap.size k := by
  refine ⟨?_, ?_, ?_, ?_, ?_, ?_, fun j hj => ?_⟩
  all_goals simp
def set6 (w : World) (R : Nat) (k : KeyV) : World := (((((w.setCell ⟨R, 0, none⟩ (.string k.name)).setCell ⟨R, 1, none⟩ (.int .i64 k.kind)).setCell ⟨R, 2, none⟩ (.string k.dflt)).setCell ⟨R, 3, none⟩ (.int .i64 k.least)).setCell ⟨R, 4, none⟩ (.int .i64 k.most)).setCell ⟨R, 5, none⟩ (.string k.letter)
theorem Box6.set6 {w : World} {R : Nat} {k0 : KeyV} (h : Box6 w R k0) (k : KeyV) : Box6 (set6 w R k) R k := by
  obtain ⟨h0, h1, h2, h3, h4, h5, hf⟩ := h
  have ne : ∀ i j, i ≠ j → (⟨R, i, none⟩ : Addr) ≠ ⟨R, j, none⟩ := fun i j hn e => hn (by injection e)
  have s : ∀ (W : World) (i j : Nat) (u : Value), i ≠ j → (W.setCell ⟨R, i, none⟩ u).cell? ⟨R, j, none⟩ = W.cell? ⟨R, j, none⟩ := fun W i j u hn => World.cell?_setCell_other _ _ _ _ (ne i j hn)
  unfold Go.Proofs.YtbgoooljkdjjhaaGreatDoor.set6
  refine ⟨?_, ?_, ?_, ?_, ?_, ?_, fun j hj => ?_⟩
  · rw [s _ 5 0 _ (by decide), s _ 4 0 _ (by decide), s _ 3 0 _ (by decide), s _ 2 0 _ (by decide), s _ 1 0 _ (by decide)]
    exact World.cell?_setCell_same _ _ _ h0
  · rw [s _ 5 1 _ (by decide), s _ 4 1 _ (by decide), s _ 3 1 _ (by decide), s _ 2 1 _ (by decide)]
    exact World.cell?_setCell_same _ _ _ ((s _ 0 1 _ (by decide)).trans h1)
  · rw [s _ 5 2 _ (by decide), s _ 4 2 _ (by decide), s _ 3 2 _ (by decide)]
    exact World.cell?_setCell_same _ _ _ ((s _ 1 2 _ (by decide)).trans ((s _ 0 2 _ (by decide)).trans h2))
  · rw [s _ 5 3 _ (by decide), s _ 4 3 _ (by decide)]
    exact World.cell?_setCell_same _ _ _ ((s _ 2 3 _ (by decide)).trans ((s _ 1 3 _ (by decide)).trans ((s _ 0 3 _ (by decide)).trans h3)))
  · rw [s _ 5 4 _ (by decide)]
    exact World.cell?_setCell_same _ _ _ ((s _ 3 4 _ (by decide)).trans ((s _ 2 4 _ (by decide)).trans ((s _ 1 4 _ (by decide)).trans ((s _ 0 4 _ (by decide)).trans h4))))
  · exact World.cell?_setCell_same _ _ _ ((s _ 4 5 _ (by decide)).trans ((s _ 3 5 _ (by decide)).trans ((s _ 2 5 _ (by decide)).trans ((s _ 1 5 _ (by decide)).trans ((s _ 0 5 _ (by decide)).trans h5)))))
  · rw [World.frozen?_setCell, World.frozen?_setCell, World.frozen?_setCell, World.frozen?_setCell, World.frozen?_setCell, World.frozen?_setCell]; exact hf j hj
theorem below_set6 {B : Nat} {w0 w : World} (h : Below B w0 w) {R : Nat} (hR : B ≤ R) (k : KeyV) : Below B w0 (set6 w R k) :=
  (((((h.setCell (p := ⟨R, 0, none⟩) hR _).setCell (p := ⟨R, 1, none⟩) hR _).setCell (p := ⟨R, 2, none⟩) hR _).setCell (p := ⟨R, 3, none⟩) hR _).setCell (p := ⟨R, 4, none⟩) hR _).setCell (p := ⟨R, 5, none⟩) hR _

/-- A set of definitions in memory. -/
structure SetAt (w : World) (S : Nat) (x : Option Addr) (c : Nat) (xs : List KeyV) : Prop where
  cell : w.cell? ⟨S, 0, none⟩ = some (.slice x xs.length c)
  keys : Keys w x xs
  room : xs.length ≤ c
  none_ : xs = [] → x = none ∧ c = 0
  free : w.frozen? ⟨S, 0, none⟩ = false
theorem SetAt.below {w w' : World} {S : Nat} {x : Option Addr} {c : Nat} {xs : List KeyV} (h : SetAt w S x c xs) (hb : Below w.heap.size w w') : SetAt w' S x c xs :=
  ⟨by rw [hb.cell (p := ⟨S, 0, none⟩) (lt_of_cell h.cell)]; exact h.cell, h.keys.below hb, h.room, h.none_, by rw [hb.frozen (p := ⟨S, 0, none⟩) (lt_of_cell h.cell)]; exact h.free⟩

set_option maxRecDepth 100000 in
theorem place_any (xs : List KeyV) (nm : ByteArray) (S : Nat) (x : Option Addr) (c : Nat) (w : World) (h : SetAt w S x c xs) (hm : Mono xs nm) (hn : xs.length ≤ 1000000) :
    Calls Tryz.prog 56 #[.pointer (some ⟨S, 0, none⟩), .string nm] w (FoundRes xs nm w) := by
  have c0 := h.cell
  have HS := Lib.hid (search_any xs nm x c w h.keys hm hn)
  clear h hm hn
  generalize xs.length = n at c0 HS
  go_enter Tryz.func56, Tryz.ntmps56
  go_wp2_with fail
  refine HS.out.mono ?_
  rintro e w' ⟨i, hp, rfl, hb⟩
  have HP := Lib.hid hp
  have HB := Lib.hid hb
  obtain ⟨F, hF⟩ : ∃ F, (decide (i < xs.length) && decide (cmpAt xs nm i = 0)) = F := ⟨_, rfl⟩
  have HF := Lib.hid hF
  rw [hF]
  clear hp hb hF
  go_wp2
  go_ret2
  exact ⟨i, HP.out, ret_val (by rw [HF.out]; rfl), HB.out⟩
end Go.Proofs.YtbgoooljkdjjhaaGreatDoor

namespace Go.Proofs.YtbgoooljkdjjhaaGreatDoor
open Go.ChangeShapes Go.WideShapes Go.ChangeAt Go.RowKit

theorem list_take {xs ys : List ByteArray} {j : Nat} (h1 : j < xs.length) (h2 : j < ys.length) (hp : xs.take j = ys.take j) :
    (¬ xs[j] = ys[j] → decide (xs = ys) = false) ∧ (xs[j] = ys[j] → xs.take (j + 1) = ys.take (j + 1)) := by
  refine ⟨fun hn => decide_eq_false (fun e => hn (by subst e; rfl)), fun he => ?_⟩
  rw [List.take_succ_eq_append_getElem h1, List.take_succ_eq_append_getElem h2, hp, he]

end Go.Proofs.YtbgoooljkdjjhaaGreatDoor

namespace Go.Proofs.YtbgoooljkdjjhaaGreatDoor
open Go.ChangeShapes Go.WideShapes Go.ChangeAt Go.RowKit

/-- The definition of a letter; of the empty one none. -/
def letterB (l : ByteArray) (k : KeyV) : Bool := !decide (k.letter = ⟨#[]⟩) && decide (k.letter = l)
def letterK (xs : List KeyV) (l : ByteArray) : Option KeyV := xs.find? (letterB l)
theorem letter_drop {xs : List KeyV} {l : ByteArray} {t : Nat} (h : t < xs.length) : letterK (xs.drop t) l = if letterB l xs[t] then some xs[t] else letterK (xs.drop (t + 1)) l := by
  unfold letterK
  rw [List.drop_eq_getElem_cons h, List.find?_cons]
  cases letterB l xs[t] <;> rfl
def oAgg (r : Option KeyV) : Value := .tuple #[kAgg (r.getD kZero), .bool r.isSome]

set_option maxHeartbeats 1600000 in
set_option maxRecDepth 100000 in
theorem letter_any (xs : List KeyV) (l : ByteArray) (S : Nat) (x : Option Addr) (c : Nat) (w : World) (h : SetAt w S x c xs) (hn : xs.length ≤ 1000000) :
    Calls Tryz.prog 57 #[.pointer (some ⟨S, 0, none⟩), .string l] w fun e w' => e = .returned (oAgg (letterK xs l)) ∧ Below w.heap.size w w' := by
  have HS := Lib.hid h
  have c0 : ∀ t, (w.alloc (Obj.cells #[.string ⟨#[]⟩, .int .i64 0, .string ⟨#[]⟩, .int .i64 0, .int .i64 0, .string ⟨#[]⟩] t)).cell? ⟨S, 0, none⟩ = some (.slice x xs.length c) := fun t => (h.below (below_one w _)).cell
  have HZ : Hid (∀ t, Box6 (w.alloc (Obj.cells #[.string ⟨#[]⟩, .int .i64 0, .string ⟨#[]⟩, .int .i64 0, .int .i64 0, .string ⟨#[]⟩] t)) w.heap.size kZero ∧ Below w.heap.size w (w.alloc (Obj.cells #[.string ⟨#[]⟩, .int .i64 0, .string ⟨#[]⟩, .int .i64 0, .int .i64 0, .string ⟨#[]⟩] t))) := Lib.hid fun t => ⟨box6_new w kZero t, below_one w _⟩
  have HD : Hid (letterK (xs.drop 0) l = letterK xs l) := Lib.hid rfl
  obtain ⟨r, hr⟩ : ∃ r, letterK xs l = r := ⟨_, rfl⟩
  rw [hr] at HD ⊢
  obtain ⟨n, hn'⟩ : ∃ n, xs.length = n := ⟨_, rfl⟩
  have HN := Lib.hid hn'
  rw [hn'] at hn c0
  clear h hr hn'
  go_enter Tryz.func57, Tryz.ntmps57
  go_wp2
  go_loopw [13, 7] (fun i _ wr => ∃ t : Nat, i = .int .i64 t ∧ t ≤ n ∧ Hid (Below w.heap.size w wr ∧ Box6 wr w.heap.size kZero ∧ letterK (xs.drop t) l = r)) (fun i _ _ => n - (intOf i).toNat)
  case atStart => exact ⟨0, rfl, by omega, Lib.hid ⟨(HZ.out _).2, (HZ.out _).1, HD.out⟩⟩
  case round =>
    clear HD HZ c0
    obtain ⟨t, rfl, ht, HK⟩ := hrel
    by_cases hlt : t < n
    · have htx : t < xs.length := by rw [HN.out]; exact hlt
      obtain ⟨b, hxe, hbl, c0, c1, c2, c3, c4, c5⟩ := (HS.out.keys.below HK.out.1) t htx
      have hd := letter_drop (l := l) htx
      generalize xs[t] = k at c0 c1 c2 c3 c4 c5 hd
      obtain ⟨kn, kk, kd, kl, km, kt⟩ := k
      simp only at c0 c1 c2 c3 c4 c5
      have HE := Lib.hid (HK.out.2.2.symm.trans hd)
      have q1 : (0 : Int) ≤ t := by omega
      have q2 : (t : Int) < n := by omega
      subst hxe
      clear hd htx
      have HB6 : Hid (∀ p, Below w.heap.size w (wr.alloc (Obj.cells #[.string kn, .int .i64 kk, .string kd, .int .i64 kl, .int .i64 km, .string kt] p)) ∧ Box6 (wr.alloc (Obj.cells #[.string kn, .int .i64 kk, .string kd, .int .i64 kl, .int .i64 km, .string kt] p)) w.heap.size kZero) := Lib.hid fun p => ⟨HK.out.1.trans ((below_one wr _).mono HK.out.1.size), HK.out.2.1.below (below_one wr _)⟩
      by_cases he : kt = ⟨#[]⟩
      · have HN2 : Hid (letterK (xs.drop (t + 1)) l = r) := Lib.hid (by
          have h1 := HE.out
          rw [show letterB l ⟨kn, kk, kd, kl, km, kt⟩ = false by unfold letterB; rw [decide_eq_true he]; rfl] at h1
          exact h1.symm)
        subst he
        clear HE
        go_wp2
        go_roundw
        case rel => exact ⟨t + 1, by go_num, by omega, Lib.hid ⟨(HB6.out _).1, (HB6.out _).2, HN2.out⟩⟩
        case measure => simp [intOf]; omega
      have d1 : kt.toList.isEmpty = false := emp_false' (fun h => he (by rw [← mkB_self kt, h]; rfl))
      by_cases hl : kt = l
      · have HR : Hid (r = some ⟨kn, kk, kd, kl, km, kt⟩) := Lib.hid (by
          have h1 := HE.out
          rw [show letterB l ⟨kn, kk, kd, kl, km, kt⟩ = true by unfold letterB; rw [decide_eq_false he, decide_eq_true hl]; rfl] at h1
          exact h1)
        subst hl
        clear HE he
        have HS6 : Hid (∀ p, Box6 (set6 (wr.alloc (Obj.cells #[.string kn, .int .i64 kk, .string kd, .int .i64 kl, .int .i64 km, .string kt] p)) w.heap.size ⟨kn, kk, kd, kl, km, kt⟩) w.heap.size ⟨kn, kk, kd, kl, km, kt⟩ ∧ Below w.heap.size w (set6 (wr.alloc (Obj.cells #[.string kn, .int .i64 kk, .string kd, .int .i64 kl, .int .i64 km, .string kt] p)) w.heap.size ⟨kn, kk, kd, kl, km, kt⟩)) := Lib.hid fun p => ⟨(HB6.out p).2.set6 _, below_set6 (HB6.out p).1 (Nat.le_refl _) _⟩
        obtain ⟨b0, b1, b2, b3, b4, b5, bf⟩ := (HB6.out 57).2
        have f0 := bf 0 (by decide)
        have f1 := bf 1 (by decide)
        have f2 := bf 2 (by decide)
        have f3 := bf 3 (by decide)
        have f4 := bf 4 (by decide)
        have f5 := bf 5 (by decide)
        obtain ⟨g0, g1, g2, g3, g4, g5, _⟩ := (HS6.out 57).1
        have HF := Lib.hid (HS6.out 57).2
        unfold set6 at g0 g1 g2 g3 g4 g5 HF
        simp only at g0 g1 g2 g3 g4 g5 HF
        clear bf HS6 HB6
        go_wp2
        exact bodyPost_ret (v := .tuple #[.agg #[.string kn, .int .i64 kk, .string kd, .int .i64 kl, .int .i64 km, .string kt], .bool true]) (by simp [results, Tryz.results57, go_sem, g0, g1, g2, g3, g4, g5]) rfl ⟨ret_val (by rw [HR.out]; rfl), HF.out⟩
      · have HN2 : Hid (letterK (xs.drop (t + 1)) l = r) := Lib.hid (by
          have h1 := HE.out
          rw [show letterB l ⟨kn, kk, kd, kl, km, kt⟩ = false by unfold letterB; rw [decide_eq_false hl, Bool.and_false]] at h1
          exact h1.symm)
        have d3 : (kt.toList == l.toList) = false := beq_eq_false_iff_ne.2 (fun h => hl (toList_inj h))
        clear HE he hl
        go_wp2
        go_roundw
        case rel => exact ⟨t + 1, by go_num, by omega, Lib.hid ⟨(HB6.out _).1, (HB6.out _).2, HN2.out⟩⟩
        case measure => simp [intOf]; omega
    · have HR : Hid (r = none) := Lib.hid (by
        have h1 := HK.out.2.2
        rw [List.drop_eq_nil_of_le (by rw [HN.out]; omega)] at h1
        exact h1.symm)
      have q2 : ¬ (t : Int) < n := by omega
      have HS6 : Hid (Box6 (set6 wr w.heap.size kZero) w.heap.size kZero ∧ Below w.heap.size w (set6 wr w.heap.size kZero)) := Lib.hid ⟨HK.out.2.1.set6 _, below_set6 HK.out.1 (Nat.le_refl _) _⟩
      obtain ⟨b0, b1, b2, b3, b4, b5, bf⟩ := HK.out.2.1
      have f0 := bf 0 (by decide)
      have f1 := bf 1 (by decide)
      have f2 := bf 2 (by decide)
      have f3 := bf 3 (by decide)
      have f4 := bf 4 (by decide)
      have f5 := bf 5 (by decide)
      obtain ⟨g0, g1, g2, g3, g4, g5, _⟩ := HS6.out.1
      have HF := Lib.hid HS6.out.2
      unfold kZero at b0 b1 b2 b3 b4 b5
      unfold set6 kZero at g0 g1 g2 g3 g4 g5 HF
      simp only at b0 b1 b2 b3 b4 b5 g0 g1 g2 g3 g4 g5 HF
      clear bf HS6
      go_wp2
      exact bodyPost_ret (v := .tuple #[.agg #[.string ⟨#[]⟩, .int .i64 0, .string ⟨#[]⟩, .int .i64 0, .int .i64 0, .string ⟨#[]⟩], .bool false]) (by simp [results, Tryz.results57, go_sem, g0, g1, g2, g3, g4, g5]) rfl ⟨ret_val (by rw [HR.out]; rfl), HF.out⟩
end Go.Proofs.YtbgoooljkdjjhaaGreatDoor
