/-
  KeySpec, KeyPlace, KeyFind.
-/
import Derived.Test.YtlcgfdijohgnpaaGreatDoorQValueLib
import Derived.Test.YtlcgfdijohgnpaaGreatDoorQMarks
import Derived.Test.YtlcgfdijohgnpaaGreatDoorQValueBox
namespace Go.Proofs.YtlcgfdijohgnpaaGreatDoor
open Go.ChangeShapes Go.WideShapes Go.ChangeAt Go.RowKit

structure KeyV where
 name : ByteArray
 kind : Int
 dflt : ByteArray
 least : Int
 most : Int
 letter : ByteArray
def kCells (k : KeyV) : List Value := [.string k.name, .int .i64 k.kind, .string k.dflt, .int .i64 k.least, .int .i64 k.most, .string k.letter]
def kAgg (k : KeyV) : Value := .agg #[.string k.name, .int .i64 k.kind, .string k.dflt, .int .i64 k.least, .int .i64 k.most, .string k.letter]
def Keys (w : World) (x : Option Addr) (xs : List KeyV) : Prop :=
 ∀ i (h : i < xs.length), ∃ b, x = some ⟨b, 0, none⟩ ∧ b < w.heap.size ∧ w.cell? ⟨b, i * 6, none⟩ = some (.string xs[i].name) ∧ w.cell? ⟨b, i * 6 + 1, none⟩ = some (.int .i64 xs[i].kind) ∧ w.cell? ⟨b, i * 6 + 2, none⟩ = some (.string xs[i].dflt) ∧
  w.cell? ⟨b, i * 6 + 3, none⟩ = some (.int .i64 xs[i].least) ∧ w.cell? ⟨b, i * 6 + 4, none⟩ = some (.int .i64 xs[i].most) ∧ w.cell? ⟨b, i * 6 + 5, none⟩ = some (.string xs[i].letter)
theorem Keys.below {w w' : World} {x : Option Addr} {xs : List KeyV} (h : Keys w x xs) (hb : Below w.heap.size w w') : Keys w' x xs := fun i hi => by
 obtain ⟨b, e, hl, c0, c1, c2, c3, c4, c5⟩ := h i hi
 exact ⟨b, e, Nat.lt_of_lt_of_le hl hb.size, by rw [hb.cell (p := ⟨b, i * 6, none⟩) hl]; exact c0, by rw [hb.cell (p := ⟨b, i * 6 + 1, none⟩) hl]; exact c1, by rw [hb.cell (p := ⟨b, i * 6 + 2, none⟩) hl]; exact c2, by rw [hb.cell (p := ⟨b, i * 6 + 3, none⟩) hl]; exact c3, by rw [hb.cell (p := ⟨b, i * 6 + 4, none⟩) hl]; exact c4, by rw [hb.cell (p := ⟨b, i * 6 + 5, none⟩) hl]; exact c5⟩
theorem Keys.nil_ (w : World) (x : Option Addr) : Keys w x [] := fun i h => absurd h (by simp)

def cmpB (a b : ByteArray) : Int := Lib.compareBytes a.data.toList b.data.toList
theorem compare_any (a b : ByteArray) (w : World) : Calls Tryz.prog 53 #[.string a, .string b] w fun e w' => e = .returned (.int .i64 (cmpB a b)) ∧ w = w' :=
 (Any.strings_Compare Tryz.lays106 a b w).mono fun _ _ ⟨he, hw⟩ => ⟨he, hw.symm⟩
set_option maxRecDepth 100000 in
theorem place1_any (k : KeyV) (nm : ByteArray) (w : World) : Calls Tryz.prog 122 #[kAgg k, .string nm] w fun e w' => e = .returned (.int .i64 (cmpB k.name nm)) ∧ Below w.heap.size w w' := by
 unfold kAgg
 go_enter Tryz.func122, Tryz.ntmps122
 go_wp2_with fail
 refine (compare_any _ _ _).mono ?_
 rintro e w' ⟨rfl, rfl⟩
 go_wp2
 go_ret
 exact ⟨rfl, (Below.refl _ _).alloc (Nat.le_refl _) _⟩
end Go.Proofs.YtlcgfdijohgnpaaGreatDoor

namespace Go.Proofs.YtlcgfdijohgnpaaGreatDoor
open Go.ChangeShapes Go.WideShapes Go.ChangeAt Go.RowKit

def kZero : KeyV := ⟨⟨#[]⟩, 0, ⟨#[]⟩, 0, 0, ⟨#[]⟩⟩
def cmpAt (xs : List KeyV) (nm : ByteArray) (t : Nat) : Int := cmpB (xs.getD t kZero).name nm
theorem cmpAt_of {xs : List KeyV} {nm : ByteArray} {t : Nat} (h : t < xs.length) : cmpAt xs nm t = cmpB xs[t].name nm := by unfold cmpAt; rw [List.getD_eq_getElem?_getD, List.getElem?_eq_getElem h]; rfl
def Mono (xs : List KeyV) (nm : ByteArray) : Prop := ∀ a b, a ≤ b → b < xs.length → cmpAt xs nm b < 0 → cmpAt xs nm a < 0
def PlaceIs (xs : List KeyV) (nm : ByteArray) (i : Nat) : Prop := i ≤ xs.length ∧ (∀ t, t < i → cmpAt xs nm t < 0) ∧ ∀ t, i ≤ t → t < xs.length → 0 ≤ cmpAt xs nm t
def FoundRes (xs : List KeyV) (nm : ByteArray) (w : World) (e : Ending) (w' : World) : Prop :=
 ∃ i, PlaceIs xs nm i ∧ e = .returned (.tuple #[.int .i64 (i : Nat), .bool (decide (i < xs.length) && decide (cmpAt xs nm i = 0))]) ∧ Below w.heap.size w w'

set_option maxHeartbeats 1600000 in
set_option maxRecDepth 100000 in
theorem search_any (xs : List KeyV) (nm : ByteArray) (x : Option Addr) (c : Nat) (w : World) (hx : Keys w x xs) (hm : Mono xs nm) (hn : xs.length ≤ 1000000) :
  Calls Tryz.prog 121 #[.slice x xs.length c, .string nm, .func (.func 122) #[] #[]] w (FoundRes xs nm w) := by
 have HX := Lib.hid hx
 have HM := Lib.hid hm
 obtain ⟨n, hn'⟩ : ∃ n, xs.length = n := ⟨_, rfl⟩
 have HN := Lib.hid hn'
 have HC : Hid (∀ t (h : t < xs.length), cmpAt xs nm t = cmpB xs[t].name nm) := Lib.hid fun t h => cmpAt_of h
 rw [hn'] at hn ⊢
 clear hx hm hn'
 go_enter Tryz.func121, Tryz.ntmps121
 go_wp2
 go_loopw [9, 10, 11] (fun i j _ wr => ∃ a b : Nat, i = .int .i64 a ∧ j = .int .i64 b ∧ a ≤ b ∧ b ≤ n ∧ Hid (Below w.heap.size w wr ∧ (∀ t, t < a → cmpAt xs nm t < 0) ∧ ∀ t, b ≤ t → t < n → 0 ≤ cmpAt xs nm t)) (fun i j _ _ => (intOf j).toNat - (intOf i).toNat)
 case atStart => exact ⟨0, n, rfl, rfl, by omega, by omega, Lib.hid ⟨Below.refl _ _, fun t h => by omega, fun t h1 h2 => by omega⟩⟩
 case round =>
  obtain ⟨a, b, rfl, rfl, hab, hbn, HK⟩ := hrel
  by_cases hlt : a < b
  ·obtain ⟨m, hmid⟩ : ∃ m, (a + b) / 2 = m := ⟨_, rfl⟩
   have hm1 : a ≤ m := by omega
   have hm2 : m < b := by omega
   have hmx : m < xs.length := by rw [HN.out]; omega
   have q1 : (a : Int) < b := by omega
   have hq : ((a : Int) + b) / 2 = m := by omega
   have q3 : (0 : Int) ≤ m := by omega
   have q4 : (m : Int) < n := by omega
   obtain ⟨bk, hxe, hbl, c0, c1, c2, c3, c4, c5⟩ := (HX.out.below HK.out.1) m hmx
   have hcm := HC.out m hmx
   have HPC := Lib.hid (place1_any xs[m] nm wr)
   generalize xs[m] = k at c0 c1 c2 c3 c4 c5 hcm HPC
   unfold kAgg at HPC
   rw [← hcm] at HPC
   obtain ⟨kn, kk, kd, kl, km, kt⟩ := k
   simp only at c0 c1 c2 c3 c4 c5 HPC
   obtain ⟨z, hz⟩ : ∃ z, cmpAt xs nm m = z := ⟨_, rfl⟩
   have HZ := Lib.hid hz
   rw [hz] at HPC
   subst hxe
   clear hcm hz hmid hmx
   by_cases hz0 : z < 0
   ·have d1 : decide (z < 0) = true := decide_eq_true hz0
    go_wp2_with fail
    refine HPC.out.mono ?_
    rintro e w2 ⟨rfl, hb2⟩
    have HN2 := Lib.hid (show Below w.heap.size w w2 ∧ (∀ t, t < m + 1 → cmpAt xs nm t < 0) ∧ ∀ t, b ≤ t → t < n → 0 ≤ cmpAt xs nm t from ⟨HK.out.1.trans (hb2.mono HK.out.1.size), fun t ht => HM.out t m (by omega) (by rw [HN.out]; omega) (by rw [HZ.out]; exact hz0), HK.out.2.2⟩)
    clear hb2
    go_wp2
    go_roundw
    case rel => exact ⟨m + 1, b, by go_num, rfl, by omega, by omega, HN2⟩
    case measure => simp [intOf]; omega
   ·have d1 : decide (z < 0) = false := decide_eq_false hz0
    have hz1 : 0 ≤ z := by omega
    clear hz0
    go_wp2_with fail
    refine HPC.out.mono ?_
    rintro e w2 ⟨rfl, hb2⟩
    have HN2 := Lib.hid (show Below w.heap.size w w2 ∧ (∀ t, t < a → cmpAt xs nm t < 0) ∧ ∀ t, m ≤ t → t < n → 0 ≤ cmpAt xs nm t from ⟨HK.out.1.trans (hb2.mono HK.out.1.size), HK.out.2.1, fun t h1 h2 => Int.not_lt.1 fun h3 => Int.not_lt.2 hz1 (by rw [← HZ.out]; exact HM.out m t h1 (by rw [HN.out]; omega) h3)⟩)
    clear hb2
    go_wp2
    go_roundw
    case rel => exact ⟨a, m, rfl, rfl, by omega, by omega, HN2⟩
    case measure => simp [intOf]; omega
  ·obtain rfl : a = b := by omega
   have q1 : ¬ (a : Int) < a := by omega
   have HPI : Hid (PlaceIs xs nm a) := Lib.hid ⟨by rw [HN.out]; exact hbn, HK.out.2.1, fun t h1 h2 => HK.out.2.2 t h1 (by rw [← HN.out]; exact h2)⟩
   by_cases hend : a < n
   ·have q2 : (a : Int) < n := by omega
    have q3 : (0 : Int) ≤ a := by omega
    have hmx : a < xs.length := by rw [HN.out]; omega
    obtain ⟨bk, hxe, hbl, c0, c1, c2, c3, c4, c5⟩ := (HX.out.below HK.out.1) a hmx
    have hcm := HC.out a hmx
    have HPC := Lib.hid (place1_any xs[a] nm wr)
    generalize xs[a] = k at c0 c1 c2 c3 c4 c5 hcm HPC
    unfold kAgg at HPC
    rw [← hcm] at HPC
    obtain ⟨kn, kk, kd, kl, km, kt⟩ := k
    simp only at c0 c1 c2 c3 c4 c5 HPC
    obtain ⟨z, hz⟩ : ∃ z, cmpAt xs nm a = z := ⟨_, rfl⟩
    rw [hz] at HPC
    have HF : Hid ((decide (a < xs.length) && decide (cmpAt xs nm a = 0)) = (z == 0)) := Lib.hid (by rw [decide_eq_true hmx, hz, Bool.true_and]; rfl)
    subst hxe
    clear hcm hz hmx
    go_wp2_with fail
    refine HPC.out.mono ?_
    rintro e w2 ⟨rfl, hb2⟩
    have HB2 := Lib.hid (HK.out.1.trans (hb2.mono HK.out.1.size))
    clear hb2
    go_wp2
    go_ret2
    exact ⟨a, HPI.out, ret_val (by rw [HF.out]; rfl), HB2.out⟩
   ·have q2 : ¬ (a : Int) < n := by omega
    have HF : Hid ((decide (a < xs.length) && decide (cmpAt xs nm a = 0)) = false) := Lib.hid (by rw [decide_eq_false (by rw [HN.out]; exact hend)]; rfl)
    go_wp2
    go_ret2
    exact ⟨a, HPI.out, ret_val (by rw [HF.out]; rfl), HK.out.1⟩
end Go.Proofs.YtlcgfdijohgnpaaGreatDoor

namespace Go.Proofs.YtlcgfdijohgnpaaGreatDoor
open Go.ChangeShapes Go.WideShapes Go.ChangeAt Go.RowKit

structure Box6 (w : World) (R : Nat) (k : KeyV) : Prop where
 c0 : w.cell? ⟨R, 0, none⟩ = some (.string k.name)
 c1 : w.cell? ⟨R, 1, none⟩ = some (.int .i64 k.kind)
 c2 : w.cell? ⟨R, 2, none⟩ = some (.string k.dflt)
 c3 : w.cell? ⟨R, 3, none⟩ = some (.int .i64 k.least)
 c4 : w.cell? ⟨R, 4, none⟩ = some (.int .i64 k.most)
 c5 : w.cell? ⟨R, 5, none⟩ = some (.string k.letter)
 fz : ∀ j, j < 6 → w.frozen? ⟨R, j, none⟩ = false
theorem Box6.lt {w : World} {R : Nat} {k : KeyV} (h : Box6 w R k) : R < w.heap.size := lt_of_cell h.c0
theorem Box6.below {w w' : World} {R : Nat} {k : KeyV} (h : Box6 w R k) (hb : Below w.heap.size w w') : Box6 w' R k := by
 have hl := h.lt
 obtain ⟨h0, h1, h2, h3, h4, h5, hf⟩ := h
 exact ⟨by rw [hb.cell hl]; exact h0, by rw [hb.cell hl]; exact h1, by rw [hb.cell hl]; exact h2, by rw [hb.cell hl]; exact h3, by rw [hb.cell hl]; exact h4, by rw [hb.cell hl]; exact h5, fun j hj => by rw [hb.frozen hl]; exact hf j hj⟩
theorem box6_new (w : World) (k : KeyV) (t : TypeId) : Box6 (w.alloc (Obj.cells #[.string k.name, .int .i64 k.kind, .string k.dflt, .int .i64 k.least, .int .i64 k.most, .string k.letter] t)) w.heap.size k := by
 refine ⟨?_, ?_, ?_, ?_, ?_, ?_, fun j hj => ?_⟩
 all_goals simp
def set6 (w : World) (R : Nat) (k : KeyV) : World := (((((w.setCell ⟨R, 0, none⟩ (.string k.name)).setCell ⟨R, 1, none⟩ (.int .i64 k.kind)).setCell ⟨R, 2, none⟩ (.string k.dflt)).setCell ⟨R, 3, none⟩ (.int .i64 k.least)).setCell ⟨R, 4, none⟩ (.int .i64 k.most)).setCell ⟨R, 5, none⟩ (.string k.letter)
theorem Box6.set6 {w : World} {R : Nat} {k0 : KeyV} (h : Box6 w R k0) (k : KeyV) : Box6 (set6 w R k) R k := by
 obtain ⟨h0, h1, h2, h3, h4, h5, hf⟩ := h
 have ne : ∀ i j, i ≠ j → (⟨R, i, none⟩ : Addr) ≠ ⟨R, j, none⟩ := fun i j hn e => hn (by injection e)
 have s : ∀ (W : World) (i j : Nat) (u : Value), i ≠ j → (W.setCell ⟨R, i, none⟩ u).cell? ⟨R, j, none⟩ = W.cell? ⟨R, j, none⟩ := fun W i j u hn => World.cell?_setCell_other _ _ _ _ (ne i j hn)
 unfold Go.Proofs.YtlcgfdijohgnpaaGreatDoor.set6
 refine ⟨?_, ?_, ?_, ?_, ?_, ?_, fun j hj => ?_⟩
 ·rw [s _ 5 0 _ (by decide), s _ 4 0 _ (by decide), s _ 3 0 _ (by decide), s _ 2 0 _ (by decide), s _ 1 0 _ (by decide)]
  exact World.cell?_setCell_same _ _ _ h0
 ·rw [s _ 5 1 _ (by decide), s _ 4 1 _ (by decide), s _ 3 1 _ (by decide), s _ 2 1 _ (by decide)]
  exact World.cell?_setCell_same _ _ _ ((s _ 0 1 _ (by decide)).trans h1)
 ·rw [s _ 5 2 _ (by decide), s _ 4 2 _ (by decide), s _ 3 2 _ (by decide)]
  exact World.cell?_setCell_same _ _ _ ((s _ 1 2 _ (by decide)).trans ((s _ 0 2 _ (by decide)).trans h2))
 ·rw [s _ 5 3 _ (by decide), s _ 4 3 _ (by decide)]
  exact World.cell?_setCell_same _ _ _ ((s _ 2 3 _ (by decide)).trans ((s _ 1 3 _ (by decide)).trans ((s _ 0 3 _ (by decide)).trans h3)))
 ·rw [s _ 5 4 _ (by decide)]
  exact World.cell?_setCell_same _ _ _ ((s _ 3 4 _ (by decide)).trans ((s _ 2 4 _ (by decide)).trans ((s _ 1 4 _ (by decide)).trans ((s _ 0 4 _ (by decide)).trans h4))))
 ·exact World.cell?_setCell_same _ _ _ ((s _ 4 5 _ (by decide)).trans ((s _ 3 5 _ (by decide)).trans ((s _ 2 5 _ (by decide)).trans ((s _ 1 5 _ (by decide)).trans ((s _ 0 5 _ (by decide)).trans h5)))))
 ·rw [World.frozen?_setCell, World.frozen?_setCell, World.frozen?_setCell, World.frozen?_setCell, World.frozen?_setCell, World.frozen?_setCell]; exact hf j hj
theorem below_set6 {B : Nat} {w0 w : World} (h : Below B w0 w) {R : Nat} (hR : B ≤ R) (k : KeyV) : Below B w0 (set6 w R k) :=
 (((((h.setCell (p := ⟨R, 0, none⟩) hR _).setCell (p := ⟨R, 1, none⟩) hR _).setCell (p := ⟨R, 2, none⟩) hR _).setCell (p := ⟨R, 3, none⟩) hR _).setCell (p := ⟨R, 4, none⟩) hR _).setCell (p := ⟨R, 5, none⟩) hR _

structure SetAt (w : World) (S : Nat) (x : Option Addr) (c : Nat) (xs : List KeyV) : Prop where
 cell : w.cell? ⟨S, 0, none⟩ = some (.slice x xs.length c)
 keys : Keys w x xs
 room : xs.length ≤ c
 none_ : xs = [] → x = none ∧ c = 0
 free : w.frozen? ⟨S, 0, none⟩ = false
theorem SetAt.below {w w' : World} {S : Nat} {x : Option Addr} {c : Nat} {xs : List KeyV} (h : SetAt w S x c xs) (hb : Below w.heap.size w w') : SetAt w' S x c xs :=
 ⟨by rw [hb.cell (p := ⟨S, 0, none⟩) (lt_of_cell h.cell)]; exact h.cell, h.keys.below hb, h.room, h.none_, by rw [hb.frozen (p := ⟨S, 0, none⟩) (lt_of_cell h.cell)]; exact h.free⟩

set_option maxRecDepth 100000 in
theorem place_any (xs : List KeyV) (nm : ByteArray) (S : Nat) (x : Option Addr) (c : Nat) (w : World) (h : SetAt w S x c xs) (hm : Mono xs nm) (hn : xs.length ≤ 1000000) :
  Calls Tryz.prog 87 #[.pointer (some ⟨S, 0, none⟩), .string nm] w (FoundRes xs nm w) := by
 have c0 := h.cell
 have HS := Lib.hid (search_any xs nm x c w h.keys hm hn)
 clear h hm hn
 generalize xs.length = n at c0 HS
 go_enter Tryz.func87, Tryz.ntmps87
 go_wp2_with fail
 refine HS.out.mono ?_
 rintro e w' ⟨i, hp, rfl, hb⟩
 have HP := Lib.hid hp
 have HB := Lib.hid hb
 obtain ⟨F, hF⟩ : ∃ F, (decide (i < xs.length) && decide (cmpAt xs nm i = 0)) = F := ⟨_, rfl⟩
 have HF := Lib.hid hF
 rw [hF]
 clear hp hb hF
 go_wp2
 go_ret2
 exact ⟨i, HP.out, ret_val (by rw [HF.out]; rfl), HB.out⟩
end Go.Proofs.YtlcgfdijohgnpaaGreatDoor
