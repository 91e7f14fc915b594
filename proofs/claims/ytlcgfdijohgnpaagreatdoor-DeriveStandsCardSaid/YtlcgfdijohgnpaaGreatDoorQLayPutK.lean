/-
  LayKit, LayVal, LayMay, SetAll, LaySet, LayAll, LayPutK.
-/
import Derived.Test.YtlcgfdijohgnpaaGreatDoorQKeyFind
import Derived.Test.YtlcgfdijohgnpaaGreatDoorQSetKit
import Derived.Test.YtlcgfdijohgnpaaGreatDoorQBut
import Derived.Test.YtlcgfdijohgnpaaGreatDoorQSetMay
import Derived.Test.YtlcgfdijohgnpaaGreatDoorQValueSame
import Derived.Deep.RegionHeld3
import Derived.BigQuiet
import Derived.Test.YtlcgfdijohgnpaaGreatDoorQSetOwn
import Derived.Test.YtlcgfdijohgnpaaGreatDoorQSetPut
import Derived.Test.YtlcgfdijohgnpaaGreatDoorQRefsWork
import Derived.Laws.MakeOwn
import Derived.Test.YtlcgfdijohgnpaaGreatDoorQKeyFinds
namespace Go.Proofs.YtlcgfdijohgnpaaGreatDoor
open Go.ChangeShapes Go.WideShapes Go.ChangeAt Go.RowKit

def dAgg (k : KeyV) : Value := .agg #[.string k.name, .int .i64 k.kind, .int .i64 k.least, .int .i64 k.most]
def DefsAt (F : Nat → Prop) (w : World) (x : Option Addr) (ks : List KeyV) : Prop :=
 ∀ i (h : i < ks.length), ∃ b, x = some ⟨b, 0, none⟩ ∧ F b ∧ b < w.heap.size ∧ w.cell? ⟨b, i * 4, none⟩ = some (.string ks[i].name) ∧ w.cell? ⟨b, i * 4 + 1, none⟩ = some (.int .i64 ks[i].kind) ∧ w.cell? ⟨b, i * 4 + 2, none⟩ = some (.int .i64 ks[i].least) ∧ w.cell? ⟨b, i * 4 + 3, none⟩ = some (.int .i64 ks[i].most)
structure Stay (F : Nat → Prop) (w w' : World) : Prop where
 size : w.heap.size ≤ w'.heap.size
 block : ∀ b, F b → b < w.heap.size → w'.heap[b]? = w.heap[b]?
theorem Stay.of_below {F : Nat → Prop} {w w' : World} (h : Below w.heap.size w w') : Stay F w w' := ⟨h.size, fun b _ hb => h.block b hb⟩
theorem Stay.of_but {F : Nat → Prop} {w w' : World} {S : Nat} (h : But S w w') (hg : ¬ F S) : Stay F w w' := ⟨h.2.2.2.1, fun b hF hb => h.2.2.2.2 b hb (fun e => hg (by rw [← e]; exact hF))⟩
theorem Stay.trans {F : Nat → Prop} {a b c : World} (h : Stay F a b) (k : Stay F b c) : Stay F a c := ⟨Nat.le_trans h.size k.size, fun x hx hb => (k.block x hx (Nat.lt_of_lt_of_le hb h.size)).trans (h.block x hx hb)⟩
theorem Stay.cell {F : Nat → Prop} {w w' : World} (h : Stay F w w') {p : Addr} (hF : F p.block) (hb : p.block < w.heap.size) : w'.cell? p = w.cell? p := by
 have := h.block p.block hF hb
 unfold World.cell?; rw [this]
theorem DefsAt.stay {F : Nat → Prop} {w w' : World} {x : Option Addr} {ks : List KeyV} (h : DefsAt F w x ks) (hs : Stay F w w') : DefsAt F w' x ks := fun i hi => by
 obtain ⟨b, e, hF, hl, c0, c1, c2, c3⟩ := h i hi
 exact ⟨b, e, hF, Nat.lt_of_lt_of_le hl hs.size, (hs.cell (p := ⟨b, _, none⟩) hF hl).trans c0, (hs.cell (p := ⟨b, _, none⟩) hF hl).trans c1, (hs.cell (p := ⟨b, _, none⟩) hF hl).trans c2, (hs.cell (p := ⟨b, _, none⟩) hF hl).trans c3⟩
theorem DefsAt.below {F : Nat → Prop} {w w' : World} {x : Option Addr} {ks : List KeyV} (h : DefsAt F w x ks) (hb : Below w.heap.size w w') : DefsAt F w' x ks := h.stay (.of_below hb)
theorem DefsAt.nil_ (F : Nat → Prop) (w : World) (x : Option Addr) : DefsAt F w x [] := fun i h => absurd h (by simp)

set_option maxRecDepth 100000 in
theorem lplace1_any (k : KeyV) (nm : ByteArray) (w : World) : Calls Tryz.prog 52 #[dAgg k, .string nm] w fun e w' => e = .returned (.int .i64 (cmpB k.name nm)) ∧ Below w.heap.size w w' := by
 unfold dAgg
 go_enter Tryz.func52, Tryz.ntmps52
 go_wp2_with fail
 refine (compare_any _ _ _).mono ?_
 rintro e w' ⟨rfl, rfl⟩
 go_wp2
 go_ret
 exact ⟨rfl, (Below.refl _ _).alloc (Nat.le_refl _) _⟩
set_option maxHeartbeats 1600000 in
set_option maxRecDepth 100000 in
theorem lsearch_any (F : Nat → Prop) (xs : List KeyV) (nm : ByteArray) (x : Option Addr) (c : Nat) (w : World) (hx : DefsAt F w x xs) (hm : Mono xs nm) (hn : xs.length ≤ 1000000) :
  Calls Tryz.prog 51 #[.slice x xs.length c, .string nm, .func (.func 52) #[] #[]] w (FoundRes xs nm w) := by
 have HX := Lib.hid hx
 have HM := Lib.hid hm
 obtain ⟨n, hn'⟩ : ∃ n, xs.length = n := ⟨_, rfl⟩
 have HN := Lib.hid hn'
 have HC : Hid (∀ t (h : t < xs.length), cmpAt xs nm t = cmpB xs[t].name nm) := Lib.hid fun t h => cmpAt_of h
 rw [hn'] at hn ⊢
 clear hx hm hn'
 go_enter Tryz.func51, Tryz.ntmps51
 go_wp2
 go_loopw [9, 10, 11] (fun i j _ wr => ∃ a b : Nat, i = .int .i64 a ∧ j = .int .i64 b ∧ a ≤ b ∧ b ≤ n ∧ Hid (Below w.heap.size w wr ∧ (∀ t, t < a → cmpAt xs nm t < 0) ∧ ∀ t, b ≤ t → t < n → 0 ≤ cmpAt xs nm t)) (fun i j _ _ => (intOf j).toNat - (intOf i).toNat)
 case atStart => exact ⟨0, n, rfl, rfl, by omega, by omega, Lib.hid ⟨Below.refl _ _, fun t h => by omega, fun t h1 h2 => by omega⟩⟩
 case round =>
  obtain ⟨a, b, rfl, rfl, hab, hbn, HK⟩ := hrel
  by_cases hlt : a < b
  ·obtain ⟨m, hmid⟩ : ∃ m, (a + b) / 2 = m := ⟨_, rfl⟩
   have hm1 : a ≤ m := by omega
   have hm2 : m < b := by omega
   have hmx : m < xs.length := by rw [HN.out]; omega
   have q1 : (a : Int) < b := by omega
   have hq : ((a : Int) + b) / 2 = m := by omega
   have q3 : (0 : Int) ≤ m := by omega
   have q4 : (m : Int) < n := by omega
   obtain ⟨bk, hxe, _, hbl, c0, c1, c2, c3⟩ := (HX.out.below HK.out.1) m hmx
   have hcm := HC.out m hmx
   have HPC := Lib.hid (lplace1_any xs[m] nm wr)
   generalize xs[m] = k at c0 c1 c2 c3 hcm HPC
   unfold dAgg at HPC
   rw [← hcm] at HPC
   obtain ⟨kn, kk, kd, kl, km, kt⟩ := k
   simp only at c0 c1 c2 c3 HPC
   obtain ⟨z, hz⟩ : ∃ z, cmpAt xs nm m = z := ⟨_, rfl⟩
   have HZ := Lib.hid hz
   rw [hz] at HPC
   subst hxe
   clear hcm hz hmid hmx
   by_cases hz0 : z < 0
   ·have d1 : decide (z < 0) = true := decide_eq_true hz0
    go_wp2_with fail
    refine HPC.out.mono ?_
    rintro e w2 ⟨rfl, hb2⟩
    have HN2 := Lib.hid (show Below w.heap.size w w2 ∧ (∀ t, t < m + 1 → cmpAt xs nm t < 0) ∧ ∀ t, b ≤ t → t < n → 0 ≤ cmpAt xs nm t from ⟨HK.out.1.trans (hb2.mono HK.out.1.size), fun t ht => HM.out t m (by omega) (by rw [HN.out]; omega) (by rw [HZ.out]; exact hz0), HK.out.2.2⟩)
    clear hb2
    go_wp2
    go_roundw
    case rel => exact ⟨m + 1, b, by go_num, rfl, by omega, by omega, HN2⟩
    case measure => simp [intOf]; omega
   ·have d1 : decide (z < 0) = false := decide_eq_false hz0
    have hz1 : 0 ≤ z := by omega
    clear hz0
    go_wp2_with fail
    refine HPC.out.mono ?_
    rintro e w2 ⟨rfl, hb2⟩
    have HN2 := Lib.hid (show Below w.heap.size w w2 ∧ (∀ t, t < a → cmpAt xs nm t < 0) ∧ ∀ t, m ≤ t → t < n → 0 ≤ cmpAt xs nm t from ⟨HK.out.1.trans (hb2.mono HK.out.1.size), HK.out.2.1, fun t h1 h2 => Int.not_lt.1 fun h3 => Int.not_lt.2 hz1 (by rw [← HZ.out]; exact HM.out m t h1 (by rw [HN.out]; omega) h3)⟩)
    clear hb2
    go_wp2
    go_roundw
    case rel => exact ⟨a, m, rfl, rfl, by omega, by omega, HN2⟩
    case measure => simp [intOf]; omega
  ·obtain rfl : a = b := by omega
   have q1 : ¬ (a : Int) < a := by omega
   have HPI : Hid (PlaceIs xs nm a) := Lib.hid ⟨by rw [HN.out]; exact hbn, HK.out.2.1, fun t h1 h2 => HK.out.2.2 t h1 (by rw [← HN.out]; exact h2)⟩
   by_cases hend : a < n
   ·have q2 : (a : Int) < n := by omega
    have q3 : (0 : Int) ≤ a := by omega
    have hmx : a < xs.length := by rw [HN.out]; omega
    obtain ⟨bk, hxe, _, hbl, c0, c1, c2, c3⟩ := (HX.out.below HK.out.1) a hmx
    have hcm := HC.out a hmx
    have HPC := Lib.hid (lplace1_any xs[a] nm wr)
    generalize xs[a] = k at c0 c1 c2 c3 hcm HPC
    unfold dAgg at HPC
    rw [← hcm] at HPC
    obtain ⟨kn, kk, kd, kl, km, kt⟩ := k
    simp only at c0 c1 c2 c3 HPC
    obtain ⟨z, hz⟩ : ∃ z, cmpAt xs nm a = z := ⟨_, rfl⟩
    rw [hz] at HPC
    have HF : Hid ((decide (a < xs.length) && decide (cmpAt xs nm a = 0)) = (z == 0)) := Lib.hid (by rw [decide_eq_true hmx, hz, Bool.true_and]; rfl)
    subst hxe
    clear hcm hz hmx
    go_wp2_with fail
    refine HPC.out.mono ?_
    rintro e w2 ⟨rfl, hb2⟩
    have HB2 := Lib.hid (HK.out.1.trans (hb2.mono HK.out.1.size))
    clear hb2
    go_wp2
    go_ret2
    exact ⟨a, HPI.out, ret_val (by rw [HF.out]; rfl), HB2.out⟩
   ·have q2 : ¬ (a : Int) < n := by omega
    have HF : Hid ((decide (a < xs.length) && decide (cmpAt xs nm a = 0)) = false) := Lib.hid (by rw [decide_eq_false (by rw [HN.out]; exact hend)]; rfl)
    go_wp2
    go_ret2
    exact ⟨a, HPI.out, ret_val (by rw [HF.out]; rfl), HK.out.1⟩
set_option maxRecDepth 100000 in
theorem lplace_any (F : Nat → Prop) (xs : List KeyV) (nm : ByteArray) (x : Option Addr) (c : Nat) (w : World) (hx : DefsAt F w x xs) (hm : Mono xs nm) (hn : xs.length ≤ 1000000) :
  Calls Tryz.prog 25 #[.slice x xs.length c, .string nm] w (FoundRes xs nm w) := by
 have HS := Lib.hid (lsearch_any F xs nm x c w hx hm hn)
 clear hx hm hn
 generalize xs.length = n at HS
 go_enter Tryz.func25, Tryz.ntmps25
 go_wp2_with fail
 refine HS.out.mono ?_
 rintro e w' ⟨i, hp, rfl, hb⟩
 have HP := Lib.hid hp
 have HB := Lib.hid hb
 obtain ⟨G, hF⟩ : ∃ G, (decide (i < xs.length) && decide (cmpAt xs nm i = 0)) = G := ⟨_, rfl⟩
 have HF := Lib.hid hF
 rw [hF]
 clear hp hb hF
 go_wp2
 go_ret2
 exact ⟨i, HP.out, ret_val (by rw [HF.out]; rfl), HB.out⟩
end Go.Proofs.YtlcgfdijohgnpaaGreatDoor

namespace Go.Proofs.YtlcgfdijohgnpaaGreatDoor
open Go.ChangeShapes Go.WideShapes Go.ChangeAt Go.RowKit

theorem Box4.set2 {w : World} {R : Nat} {a b c d : Value} (h : Box4 w R a b c d) (u : Value) : Box4 (w.setCell ⟨R, 2, none⟩ u) R a b u d := by
 obtain ⟨h0, h1, h2, h3, z0, z1, z2, z3⟩ := h
 refine ⟨?_, ?_, World.cell?_setCell_same w ⟨R, 2, none⟩ u h2, ?_, ?_, ?_, ?_, ?_⟩
 ·rw [World.cell?_setCell_other _ _ _ _ (by simp), h0]
 ·rw [World.cell?_setCell_other _ _ _ _ (by simp), h1]
 ·rw [World.cell?_setCell_other _ _ _ _ (by simp), h3]
 all_goals (rw [World.frozen?_setCell]; assumption)
theorem Box4.set3b {w : World} {R : Nat} {a b c d : Value} (h : Box4 w R a b c d) (u : Value) : Box4 (w.setCell ⟨R, 3, none⟩ u) R a b c u := by
 obtain ⟨h0, h1, h2, h3, z0, z1, z2, z3⟩ := h
 refine ⟨?_, ?_, ?_, World.cell?_setCell_same w ⟨R, 3, none⟩ u h3, ?_, ?_, ?_, ?_⟩
 ·rw [World.cell?_setCell_other _ _ _ _ (by simp), h0]
 ·rw [World.cell?_setCell_other _ _ _ _ (by simp), h1]
 ·rw [World.cell?_setCell_other _ _ _ _ (by simp), h2]
 all_goals (rw [World.frozen?_setCell]; assumption)
theorem Box4.off {w : World} {R Q : Nat} {a b c d : Value} (h : Box4 w R a b c d) (hq : Q ≠ R) (j : Nat) (u : Value) : Box4 (w.setCell ⟨Q, j, none⟩ u) R a b c d := by
 obtain ⟨h0, h1, h2, h3, z0, z1, z2, z3⟩ := h
 have ne : ∀ i, (⟨Q, j, none⟩ : Addr) ≠ ⟨R, i, none⟩ := fun i e => hq (by injection e)
 refine ⟨?_, ?_, ?_, ?_, ?_, ?_, ?_, ?_⟩
 ·rw [World.cell?_setCell_other _ _ _ _ (ne 0), h0]
 ·rw [World.cell?_setCell_other _ _ _ _ (ne 1), h1]
 ·rw [World.cell?_setCell_other _ _ _ _ (ne 2), h2]
 ·rw [World.cell?_setCell_other _ _ _ _ (ne 3), h3]
 all_goals (rw [World.frozen?_setCell]; assumption)
structure CpIn (w W : World) (kd it tx sl : Value) : Prop where
 below : Below w.heap.size w W
 size : w.heap.size + 2 ≤ W.heap.size
 box : Box4 W w.heap.size kd it tx sl
 res : Box4 W (w.heap.size + 1) (.int .i64 0) (.int .i64 0) (.string ⟨#[]⟩) (.slice none 0 0)
theorem CpIn.after {w W W' : World} {kd it tx sl : Value} (h : CpIn w W kd it tx sl) (hb : Below W.heap.size W W') : CpIn w W' kd it tx sl :=
 ⟨h.below.trans (hb.mono h.below.size), Nat.le_trans h.size hb.size, h.box.below hb, h.res.below hb⟩
theorem CpIn.set {w W : World} {kd it tx sl : Value} (h : CpIn w W kd it tx sl) (u : Value) : CpIn w (W.setCell ⟨w.heap.size, 2, none⟩ u) kd it u sl :=
 ⟨h.below.setCell (p := ⟨w.heap.size, 2, none⟩) (Nat.le_refl _) _, by simpa using h.size, h.box.set2 _, h.res.off (by omega) _ _⟩
theorem CpIn.new (w : World) (kd it tx sl : Value) (t1 t2 : TypeId) : CpIn w ((w.alloc (Obj.cells #[kd, it, tx, sl] t1)).alloc (Obj.cells #[.int .i64 0, .int .i64 0, .string ⟨#[]⟩, .slice none 0 0] t2)) kd it tx sl := by
 have b1 := below_one w (Obj.cells #[kd, it, tx, sl] t1)
 have x1 := box4_new w kd it tx sl t1
 have s1 : (w.alloc (Obj.cells #[kd, it, tx, sl] t1)).heap.size = w.heap.size + 1 := by simp
 have b2 := below_one (w.alloc (Obj.cells #[kd, it, tx, sl] t1)) (Obj.cells #[.int .i64 0, .int .i64 0, .string ⟨#[]⟩, .slice none 0 0] t2)
 have x2 := box4_new (w.alloc (Obj.cells #[kd, it, tx, sl] t1)) (.int .i64 0) (.int .i64 0) (.string ⟨#[]⟩) (.slice none 0 0) t2
 rw [s1] at x2
 exact ⟨b1.trans (b2.mono b1.size), by simp, x1.below b2, x2⟩
set_option maxHeartbeats 3200000 in
set_option maxRecDepth 100000 in
theorem lcopied_any (w : World) (v : Val) (x : Option Addr) (c : Nat) (h : TxAt w x v.words) (hl : v.words.length ≤ 4294967280) (hz : ∀ k (h : k < v.words.length), v.words[k].size ≤ 4294967280) (ht : v.text.size ≤ 4294967280) :
  Calls Tryz.prog 50 #[argV v x c] w fun e w' => ∃ y d, e = .returned (argV v y d) ∧ w'.ownsRow w.heap.size 9 1 (.slice y v.words.length d) v.words.length (v.words.map Value.string) ∧ Below w.heap.size w w' := by
 obtain ⟨kd, it, tx, ws⟩ := v
 simp only at h hl hz ht ⊢
 obtain ⟨n, hn⟩ : ∃ n, ws.length = n := ⟨_, rfl⟩
 have HN := Lib.hid hn
 have HZ := Lib.hid hz
 have HCL : Hid (∀ (s : ByteArray) (W : World), s.size ≤ 4294967280 → Calls Tryz.prog 21 #[.string s] W fun e w' => e = .returned (.string s) ∧ Below W.heap.size W w') := Lib.hid fun s W hl => clone_any s W (by omega)
 have H0 : Hid (∀ t1 t2, CpIn w ((w.alloc (Obj.cells #[.int .i64 kd, .int .i64 it, .string tx, .slice x n c] t1)).alloc (Obj.cells #[.int .i64 0, .int .i64 0, .string ⟨#[]⟩, .slice none 0 0] t2)) (.int .i64 kd) (.int .i64 it) (.string tx) (.slice x n c)) := Lib.hid fun t1 t2 => CpIn.new w _ _ _ _ t1 t2
 have HW : Hid (∀ W, Below w.heap.size w W → TxAt W x ws) := Lib.hid fun W hb => TxAt.below h hb
 unfold argV
 simp only
 rw [hn] at hl ⊢
 clear h hn hz
 go_enter Tryz.func50, Tryz.ntmps50
 go_wp2_with fail
 refine (HCL.out tx _ ht).mono ?_
 rintro e w1 ⟨rfl, hb1⟩
 have hc1 := (H0.out _ _).after hb1
 obtain ⟨a0, a1, a2, a3, z0, z1, z2, z3⟩ := hc1.box
 have HC1 := Lib.hid (hc1.set (.string tx))
 obtain ⟨b0, b1, b2, b3, _, _, _, _⟩ := HC1.out.box
 clear hc1 hb1 H0
 go_wp2
 obtain ⟨W0, hW0⟩ : ∃ W0, w1.setCell ⟨w.heap.size, 2, none⟩ (.string tx) = W0 := ⟨_, rfl⟩
 have HWE := Lib.hid hW0
 have HC0 : Hid (CpIn w W0 (.int .i64 kd) (.int .i64 it) (.string tx) (.slice x n c)) := Lib.hid (by rw [← hW0]; exact HC1.out)
 have HOX : Hid (OwnX W0 (w1.setCell ⟨w.heap.size, 2, none⟩ (.string tx)) (.slice none 0 0) []) := Lib.hid (by rw [hW0]; exact OwnX.nil_ _)
 clear hW0 HWE
 go_loopw [3, 13] (fun v i wr => ∃ (k : Nat) (x9 : Option Addr) (c9 : Nat), v = .slice x9 k c9 ∧ i = .int .i64 k ∧ k ≤ n ∧ Hid (OwnX W0 wr (.slice x9 k c9) (ws.take k))) (fun _ i _ => n - (intOf i).toNat)
 case atStart => exact ⟨0, none, 0, rfl, rfl, by omega, HOX⟩
 case round =>
  clear HOX HC1 a0 a1 a2 a3 z0 z1 z2 z3 b0 b1 b2 b3
  obtain ⟨k, x9, c9, rfl, rfl, hk, HO⟩ := hrel
  have hck := HC0.out.after HO.out.below
  by_cases hlt : k < n
  ·have q1 : (0 : Int) ≤ k := by omega
   have q2 : (k : Int) < n := by omega
   have hkw : k < ws.length := by rw [HN.out]; exact hlt
   obtain ⟨b, off, hb, hbl, hcc⟩ := HW.out _ hck.below k hkw
   have hzk := HZ.out k hkw
   have HTK : Hid (ws.take (k + 1) = ws.take k ++ [ws[k]]) := Lib.hid (List.take_succ_eq_append_getElem hkw)
   have hlen : (ws.take k).length = k := by rw [List.length_take, HN.out]; omega
   generalize ws[k] = s at *
   generalize ws.take k = ts at *
   subst hb
   clear hck hkw hbl
   go_wp2_with fail
   refine (HCL.out s _ hzk).mono ?_
   rintro e w3 ⟨rfl, hb3⟩
   have HO3 := Lib.hid (HO.out.after hb3)
   clear hb3 HO hcc
   go_wp2_with (first
    | (at_builtin; refine appendX rfl _ _ rfl HO3.out (by omega) rfl rfl rfl ?_; intro y5 c5 w5 ho5; have HO5 : Hid (OwnX W0 w5 (.slice (some ⟨y5, 0, none⟩) (k + 1) c5) (ts ++ [s])) := Lib.hid (hlen ▸ ho5); clear ho5)
    | fail)
   go_roundw
   case rel => exact ⟨k + 1, _, _, rfl, by go_num, by omega, by rw [HTK.out]; exact HO5⟩
   case measure => simp [intOf]; omega
  ·obtain rfl : k = n := by omega
   have q2 : ¬ (k : Int) < k := by omega
   have HOW : Hid (OwnX W0 wr (.slice x9 k c9) ws) := Lib.hid (by
    have := HO.out
    rw [List.take_of_length_le (by rw [HN.out]; exact Nat.le_refl _)] at this
    exact this)
   obtain ⟨a0, a1, a2, a3, z0, z1, z2, z3⟩ := hck.box
   obtain ⟨c0, c1, c2, c3, y0, y1, y2, y3⟩ := hck.res
   have hx3 := hck.box.set3b (.slice x9 k c9)
   obtain ⟨d0, d1, d2, d3, _, _, _, _⟩ := hx3
   have hz3 := hck.res.off (Q := w.heap.size) (by omega) 3 (.slice x9 k c9)
   have hz4 := hz3.set4 (.int .i64 kd) (.int .i64 it) (.string tx) (.slice x9 k c9)
   obtain ⟨e0, e1, e2, e3, _, _, _, _⟩ := hz4
   obtain ⟨f0, f1, f2, f3, g0, g1, g2, g3⟩ := hz3
   have HF : Hid (set4 (wr.setCell ⟨w.heap.size, 3, none⟩ (.slice x9 k c9)) (w.heap.size + 1) (.int .i64 kd) (.int .i64 it) (.string tx) (.slice x9 k c9) = set4 (wr.setCell ⟨w.heap.size, 3, none⟩ (.slice x9 k c9)) (w.heap.size + 1) (.int .i64 kd) (.int .i64 it) (.string tx) (.slice x9 k c9)) := Lib.hid rfl
   have HE := Lib.hid (five_cells w wr w.heap.size (.slice x9 k c9) (.int .i64 kd) (.int .i64 it) (.string tx) (.slice x9 k c9) hck.below (Nat.le_refl _) HC0.out.size (by have := HOW.out.own; rw [HN.out] at this; exact this))
   unfold set4 at e0 e1 e2 e3
   clear hck HO HOW HC0 HW HCL HZ HF c0 c1 c2 c3 y0 y1 y2 y3
   go_wp2
   exact bodyPost_ret (v := .agg #[.int .i64 kd, .int .i64 it, .string tx, .slice x9 k c9]) (by simp [results, Tryz.results50, go_sem, e0, e1, e2, e3]) rfl ⟨x9, c9, rfl, HE.out.1, HE.out.2⟩
end Go.Proofs.YtlcgfdijohgnpaaGreatDoor

namespace Go.Proofs.YtlcgfdijohgnpaaGreatDoor
open Go.ChangeShapes Go.WideShapes Go.ChangeAt Go.RowKit

def hCells (m : SetM) : List Value := [.int .i64 m.x.val.kind, .int .i64 m.x.val.int, .string m.x.val.text, .slice m.a m.x.val.words.length m.c, .int .i64 m.x.from_]
def WordsAt (F : Nat → Prop) (w : World) (m : SetM) : Prop := TxAt w m.a m.x.val.words ∧ m.x.val.words.length ≤ m.c ∧ ∀ b off, 0 < m.x.val.words.length → m.a = some ⟨b, off, none⟩ → F b
theorem WordsAt.stay {F : Nat → Prop} {w w' : World} {m : SetM} (h : WordsAt F w m) (hs : Stay F w w') : WordsAt F w' m := ⟨fun k hk => by
 obtain ⟨b, off, e, hl, hc⟩ := h.1 k hk
 exact ⟨b, off, e, Nat.lt_of_lt_of_le hl hs.size, (hs.cell (p := ⟨b, off + k, none⟩) (h.2.2 b off (by omega) e) hl).trans hc⟩, h.2.1, h.2.2⟩
def HeldAt (F : Nat → Prop) (w : World) (x : Option Addr) (ms : List SetM) : Prop :=
 ∀ i (h : i < ms.length), ∃ b, x = some ⟨b, 0, none⟩ ∧ F b ∧ b < w.heap.size ∧ (∀ j, j < 5 → w.cell? ⟨b, i * 5 + j, none⟩ = (hCells ms[i])[j]?) ∧ WordsAt F w ms[i]
theorem HeldAt.stay {F : Nat → Prop} {w w' : World} {x : Option Addr} {ms : List SetM} (h : HeldAt F w x ms) (hs : Stay F w w') : HeldAt F w' x ms := fun i hi => by
 obtain ⟨b, e, hF, hl, hc, hw⟩ := h i hi
 exact ⟨b, e, hF, Nat.lt_of_lt_of_le hl hs.size, fun j hj => (hs.cell (p := ⟨b, _, none⟩) hF hl).trans (hc j hj), hw.stay hs⟩
theorem HeldAt.below {F : Nat → Prop} {w w' : World} {x : Option Addr} {ms : List SetM} (h : HeldAt F w x ms) (hb : Below w.heap.size w w') : HeldAt F w' x ms := h.stay (.of_below hb)
theorem HeldAt.nil_ (F : Nat → Prop) (w : World) (x : Option Addr) : HeldAt F w x [] := fun i h => absurd h (by simp)
set_option maxRecDepth 100000 in
theorem lcalled_any (F : Nat → Prop) (ks : List KeyV) (x : Option Addr) (n c i : Nat) (w : World) (hx : DefsAt F w x ks) (hn : ks.length = n) (hi : i < n) :
  Calls Tryz.prog 54 #[.slice x n c, .int .i64 i] w fun e w' => e = .returned (.string (ks[i]'(by omega)).name) ∧ w = w' := by
 obtain ⟨b, hxe, _, hbl, c0, c1, c2, c3⟩ := hx i (by omega)
 generalize ks[i] = k at *
 have q1 : (0 : Int) ≤ i := by omega
 have q2 : (i : Int) < n := by omega
 subst hxe
 clear hx hn
 go_enter Tryz.func54, Tryz.ntmps54
 go_wp2
 go_ret
 exact ⟨rfl, rfl⟩
theorem may_is (k : KeyV) (v : Val) : mayV k v = (decide (v.kind = k.kind) && withinV v k.least k.most) := by
 unfold mayV
 cases hr : rightV v with
 | true => rw [Bool.true_and, Bool.and_comm]
 | false =>
  have : withinV v k.least k.most = false := by unfold withinV; rw [hr]; rfl
  rw [this, Bool.and_false, Bool.false_and, Bool.and_false]
set_option maxHeartbeats 1600000 in
set_option maxRecDepth 100000 in
theorem lmay_any (F : Nat → Prop) (ks : List KeyV) (x : Option Addr) (n c i : Nat) (w : World) (hx : DefsAt F w x ks) (hn : ks.length = n) (hi : i < n) (v : Val) (y : Option Addr) (d : Nat) (hv : ArgOk w v y d) (hT : Tab w) :
  Calls Tryz.prog 48 #[.slice x n c, .int .i64 i, argV v y d] w fun e w' => e = .returned (.bool (mayV (ks[i]'(by omega)) v)) ∧ Below w.heap.size w w' := by
 have HDX : Hid (∀ W, Below w.heap.size w W → DefsAt F W x ks) := Lib.hid fun W hb => hx.below hb
 obtain ⟨b, hxe, _, hbl, c0, c1, c2, c3⟩ := hx i (by omega)
 rw [may_is]
 have HWT : Hid (∀ W, Below w.heap.size w W → Calls Tryz.prog 81 #[argV v y d, .int .i64 (ks[i]'(by omega)).least, .int .i64 (ks[i]'(by omega)).most] W fun e w' => e = .returned (.bool (withinV v (ks[i]'(by omega)).least (ks[i]'(by omega)).most)) ∧ Below W.heap.size W w') := Lib.hid fun W hb => within_any W v _ _ y d (hv.below hb) (hT.below hb)
 have HC : Hid (∀ o, (w.alloc o).cell? ⟨b, i * 4 + 1, none⟩ = some (.int .i64 (ks[i]'(by omega)).kind) ∧ (w.alloc o).cell? ⟨b, i * 4 + 2, none⟩ = some (.int .i64 (ks[i]'(by omega)).least) ∧ (w.alloc o).cell? ⟨b, i * 4 + 3, none⟩ = some (.int .i64 (ks[i]'(by omega)).most)) := Lib.hid fun o => ⟨((below_one w o).cell (p := ⟨b, _, none⟩) hbl).trans c1, ((below_one w o).cell (p := ⟨b, _, none⟩) hbl).trans c2, ((below_one w o).cell (p := ⟨b, _, none⟩) hbl).trans c3⟩
 have HB : Hid (∀ o, Below w.heap.size w (w.alloc o).drew) := Lib.hid fun o => (below_one w o).trans ((below_drewN (w.alloc o) 1).mono (below_one w o).size)
 generalize ks[i] = k at *
 obtain ⟨kn, kk, kd, kl, km, kt⟩ := k
 obtain ⟨vk, vi, vt, vw⟩ := v
 unfold argV at *
 simp only at HWT HC ⊢
 have q1 : (0 : Int) ≤ i := by omega
 have q2 : (i : Int) < n := by omega
 subst hxe
 obtain ⟨nw, hnw⟩ : ∃ nw, vw.length = nw := ⟨_, rfl⟩
 obtain ⟨bw, hbw⟩ : ∃ bw, withinV ⟨vk, vi, vt, vw⟩ kl km = bw := ⟨_, rfl⟩
 rw [hnw, hbw] at HWT
 rw [hnw, hbw]
 clear hx hn hv hT c0 c1 c2 c3 hbl hnw hbw HDX
 by_cases hk : vk = kk
 ·subst hk
  have hd : decide (vk = vk) = true := decide_eq_true rfl
  rw [hd, Bool.true_and]
  clear hd
  obtain ⟨wa, hwa⟩ : ∃ wa, w.alloc (Obj.cells #[.int .i64 vk, .int .i64 vi, .string vt, .slice y nw d] 37) = wa := ⟨_, rfl⟩
  obtain ⟨c1, c2, c3⟩ := HC.out (Obj.cells #[.int .i64 vk, .int .i64 vi, .string vt, .slice y nw d] 37)
  have hbx := box4_new w (.int .i64 vk) (.int .i64 vi) (.string vt) (.slice y nw d) 37
  have HBA := Lib.hid (HB.out (Obj.cells #[.int .i64 vk, .int .i64 vi, .string vt, .slice y nw d] 37))
  rw [hwa] at c1 c2 c3 hbx HBA
  obtain ⟨x0, x1, x2, x3, _, _, _, _⟩ := hbx
  have HWA := Lib.hid hwa
  clear HC HB
  go_enter Tryz.func48, Tryz.ntmps48
  go_wp2
  clear hwa
  go_region_held3 (fun W => W.cell? ⟨w.heap.size, 0, none⟩ = some (.int .i64 vk) ∧ W.cell? ⟨w.heap.size, 1, none⟩ = some (.int .i64 vi) ∧ W.cell? ⟨w.heap.size, 2, none⟩ = some (.string vt) ∧ W.cell? ⟨w.heap.size, 3, none⟩ = some (.slice y nw d) ∧ W.cell? ⟨b, i * 4 + 1, none⟩ = some (.int .i64 vk) ∧ W.cell? ⟨b, i * 4 + 2, none⟩ = some (.int .i64 kl) ∧ W.cell? ⟨b, i * 4 + 3, none⟩ = some (.int .i64 km)) (first | exact ⟨x0, x1, x2, x3, c1, c2, c3⟩ | exact ⟨y0, y1, y2, y3, e1, e2, e3⟩)
   (first | (go_at_call 81; (with_reducible refine (HWT.out _ HBA.out).mono ?_); rintro e w2 ⟨rfl, hb2⟩; have HB2 := Lib.hid (HBA.out.trans (hb2.mono HBA.out.size)); have y0 := (hb2.cell (p := ⟨w.heap.size, 0, none⟩) (lt_of_cell x0)).trans x0; have y1 := (hb2.cell (p := ⟨w.heap.size, 1, none⟩) (lt_of_cell x0)).trans x1; have y2 := (hb2.cell (p := ⟨w.heap.size, 2, none⟩) (lt_of_cell x0)).trans x2; have y3 := (hb2.cell (p := ⟨w.heap.size, 3, none⟩) (lt_of_cell x0)).trans x3; have e1 := (hb2.cell (p := ⟨b, i * 4 + 1, none⟩) (lt_of_cell c1)).trans c1; have e2 := (hb2.cell (p := ⟨b, i * 4 + 2, none⟩) (lt_of_cell c1)).trans c2; have e3 := (hb2.cell (p := ⟨b, i * 4 + 3, none⟩) (lt_of_cell c1)).trans c3; clear hb2))
  go_wp2
  go_ret
  exact ⟨rfl, HB2.out⟩
 ·have hd : decide (vk = kk) = false := decide_eq_false hk
  rw [hd, Bool.false_and]
  go_enter Tryz.func48, Tryz.ntmps48
  obtain ⟨c1, c2, c3⟩ := HC.out (Obj.cells #[.int .i64 vk, .int .i64 vi, .string vt, .slice y nw d] 37)
  have HBA := Lib.hid (HB.out (Obj.cells #[.int .i64 vk, .int .i64 vi, .string vt, .slice y nw d] 37))
  clear HC HB
  go_wp2
  go_quiet (fail)
  go_wp2
  go_ret
  exact ⟨rfl, (below_one w _).trans ((below_drewN _ _).mono (below_one w _).size)⟩
end Go.Proofs.YtlcgfdijohgnpaaGreatDoor

namespace Go.Proofs.YtlcgfdijohgnpaaGreatDoor
open Go.ChangeShapes Go.WideShapes Go.ChangeAt Go.RowKit

end Go.Proofs.YtlcgfdijohgnpaaGreatDoor

namespace Go.Proofs.YtlcgfdijohgnpaaGreatDoor
open Go.ChangeShapes Go.WideShapes Go.ChangeAt Go.RowKit

structure LayAt (F : Nat → Prop) (w : World) (X : Nat) (dx : Option Addr) (dc : Nat) (hx : Option Addr) (hc : Nat) (ks : List KeyV) (ms : List SetM) : Prop where
  obj : w.heap[X]? = some (Obj.cells #[.slice dx ks.length dc, .slice hx ms.length hc] 60)
  defs : DefsAt F w dx ks
  held : HeldAt F w hx ms
  out : ¬ F X
  room : ms.length ≤ hc
  lt : ∀ b, F b → b < w.heap.size
theorem LayAt.below {F : Nat → Prop} {w w' : World} {X : Nat} {dx hx : Option Addr} {dc hc : Nat} {ks : List KeyV} {ms : List SetM} (h : LayAt F w X dx dc hx hc ks ms) (hb : Below w.heap.size w w') : LayAt F w' X dx dc hx hc ks ms :=
  ⟨(hb.block X (heap_ltF h.obj)).trans h.obj, h.defs.below hb, h.held.below hb, h.out, h.room, fun b hF => Nat.lt_of_lt_of_le (h.lt b hF) hb.size⟩
theorem LayAt.but {F : Nat → Prop} {w w' : World} {X Q : Nat} {dx hx : Option Addr} {dc hc : Nat} {ks : List KeyV} {ms : List SetM} (h : LayAt F w X dx dc hx hc ks ms) (hb : But Q w w') (hX : Q ≠ X) (hF : ¬ F Q) : LayAt F w' X dx dc hx hc ks ms :=
  ⟨(hb.2.2.2.2 X (heap_ltF h.obj) (fun e => hX e.symm)).trans h.obj, h.defs.stay (.of_but hb hF), h.held.stay (.of_but hb hF), h.out, h.room, fun b hF => Nat.lt_of_lt_of_le (h.lt b hF) hb.2.2.2.1⟩
theorem LayAt.cells {F : Nat → Prop} {w : World} {X : Nat} {dx hx : Option Addr} {dc hc : Nat} {ks : List KeyV} {ms : List SetM} (h : LayAt F w X dx dc hx hc ks ms) : w.cell? ⟨X, 0, none⟩ = some (.slice dx ks.length dc) ∧ w.cell? ⟨X, 1, none⟩ = some (.slice hx ms.length hc) := by
  exact ⟨by rw [cell_of_row w X 0 _ _ _ h.obj]; rfl, by rw [cell_of_row w X 1 _ _ _ h.obj]; rfl⟩
structure LayOk (ks : List KeyV) (ms : List SetM) : Prop where
  len : ms.length = ks.length
  names : ∀ i (h : i < ms.length) (h2 : i < ks.length), ms[i].x.name = ks[i].name
  may : ∀ i (h : i < ms.length) (h2 : i < ks.length), mayV ks[i] ms[i].x.val = true
  from_ : ∀ m ∈ ms, 0 ≤ m.x.from_ ∧ m.x.from_ ≤ 5
theorem may_right {k : KeyV} {v : Val} (h : mayV k v = true) : rightV v = true := by
  unfold mayV at h
  simp only [Bool.and_eq_true] at h
  exact h.1.1
theorem LayOk.right {ks : List KeyV} {ms : List SetM} (h : LayOk ks ms) : ∀ m ∈ ms, rightV m.x.val = true := fun m hm => by
  obtain ⟨i, hi, e⟩ := List.getElem_of_mem hm
  rw [← e]
  exact may_right (h.may i hi (by rw [← h.len]; exact hi))
theorem cells6 {w : World} {S : Nat} {a b c d e f : Value} (h0 : w.cell? ⟨S, 0, none⟩ = some a) (h1 : w.cell? ⟨S, 1, none⟩ = some b) (h2 : w.cell? ⟨S, 2, none⟩ = some c) (h3 : w.cell? ⟨S, 3, none⟩ = some d) (h4 : w.cell? ⟨S, 4, none⟩ = some e) (h5 : w.cell? ⟨S, 5, none⟩ = some f) : ∀ j, j < 6 → ∃ u, w.cell? ⟨S, j, none⟩ = some u := fun j hj => by
  have h6 : j = 0 ∨ j = 1 ∨ j = 2 ∨ j = 3 ∨ j = 4 ∨ j = 5 := by omega
  rcases h6 with rfl | rfl | rfl | rfl | rfl | rfl
  · exact ⟨_, h0⟩
  · exact ⟨_, h1⟩
  · exact ⟨_, h2⟩
  · exact ⟨_, h3⟩
  · exact ⟨_, h4⟩
  · exact ⟨_, h5⟩
theorem six_set {w w3 : World} {S B n : Nat} {v : Value} {xs : List Value} (a b c d e f : Value) (hb : Below w.heap.size w w3) (hS : w.heap.size ≤ S) (h : ∀ j, j < 6 → ∃ u, w3.cell? ⟨S, j, none⟩ = some u) (hB : S < B) (hr : w3.ownsRow B 9 1 v n xs) :
    Below w.heap.size w ((((((w3.setCell ⟨S, 0, none⟩ a).setCell ⟨S, 1, none⟩ b).setCell ⟨S, 2, none⟩ c).setCell ⟨S, 3, none⟩ d).setCell ⟨S, 4, none⟩ e).setCell ⟨S, 5, none⟩ f) ∧
    ((((((w3.setCell ⟨S, 0, none⟩ a).setCell ⟨S, 1, none⟩ b).setCell ⟨S, 2, none⟩ c).setCell ⟨S, 3, none⟩ d).setCell ⟨S, 4, none⟩ e).setCell ⟨S, 5, none⟩ f).ownsRow w.heap.size 9 1 v n xs ∧
    ∀ j u, #[a, b, c, d, e, f][j]? = some u → ((((((w3.setCell ⟨S, 0, none⟩ a).setCell ⟨S, 1, none⟩ b).setCell ⟨S, 2, none⟩ c).setCell ⟨S, 3, none⟩ d).setCell ⟨S, 4, none⟩ e).setCell ⟨S, 5, none⟩ f).cell? ⟨S, j, none⟩ = some u := by
  have o : ∀ (W : World) (i j : Nat) (u : Value), i ≠ j → (W.setCell ⟨S, i, none⟩ u).cell? ⟨S, j, none⟩ = W.cell? ⟨S, j, none⟩ := fun W i j u hn => World.cell?_setCell_other _ _ _ _ (fun e => hn (by injection e))
  have s : ∀ (W : World) (i : Nat) (u : Value), (∃ x, W.cell? ⟨S, i, none⟩ = some x) → (W.setCell ⟨S, i, none⟩ u).cell? ⟨S, i, none⟩ = some u := fun W i u ⟨x, hx⟩ => World.cell?_setCell_same _ _ _ hx
  refine ⟨(((((hb.setCell (p := ⟨S, 0, none⟩) hS a).setCell (p := ⟨S, 1, none⟩) hS b).setCell (p := ⟨S, 2, none⟩) hS c).setCell (p := ⟨S, 3, none⟩) hS d).setCell (p := ⟨S, 4, none⟩) hS e).setCell (p := ⟨S, 5, none⟩) hS f, ownLess (rowSet (rowSet (rowSet (rowSet (rowSet (rowSet hr hB) hB) hB) hB) hB) hB) (by omega), fun j u hu => ?_⟩
  have h6 : j = 0 ∨ j = 1 ∨ j = 2 ∨ j = 3 ∨ j = 4 ∨ j = 5 := by
    have := (Array.getElem?_eq_some_iff.1 hu).1
    simp at this; omega
  rcases h6 with rfl | rfl | rfl | rfl | rfl | rfl
  · obtain rfl : a = u := by simpa using hu
    rw [o _ 5 0 _ (by decide), o _ 4 0 _ (by decide), o _ 3 0 _ (by decide), o _ 2 0 _ (by decide), o _ 1 0 _ (by decide)]
    exact s _ _ _ (h 0 (by decide))
  · obtain rfl : b = u := by simpa using hu
    rw [o _ 5 1 _ (by decide), o _ 4 1 _ (by decide), o _ 3 1 _ (by decide), o _ 2 1 _ (by decide)]
    refine s _ _ _ ?_
    rw [o _ 0 1 _ (by decide)]
    exact h 1 (by decide)
  · obtain rfl : c = u := by simpa using hu
    rw [o _ 5 2 _ (by decide), o _ 4 2 _ (by decide), o _ 3 2 _ (by decide)]
    refine s _ _ _ ?_
    rw [o _ 1 2 _ (by decide), o _ 0 2 _ (by decide)]
    exact h 2 (by decide)
  · obtain rfl : d = u := by simpa using hu
    rw [o _ 5 3 _ (by decide), o _ 4 3 _ (by decide)]
    refine s _ _ _ ?_
    rw [o _ 2 3 _ (by decide), o _ 1 3 _ (by decide), o _ 0 3 _ (by decide)]
    exact h 3 (by decide)
  · obtain rfl : e = u := by simpa using hu
    rw [o _ 5 4 _ (by decide)]
    refine s _ _ _ ?_
    rw [o _ 3 4 _ (by decide), o _ 2 4 _ (by decide), o _ 1 4 _ (by decide), o _ 0 4 _ (by decide)]
    exact h 4 (by decide)
  · obtain rfl : f = u := by simpa using hu
    refine s _ _ _ ?_
    rw [o _ 4 5 _ (by decide), o _ 3 5 _ (by decide), o _ 2 5 _ (by decide), o _ 1 5 _ (by decide), o _ 0 5 _ (by decide)]
    exact h 5 (by decide)
set_option maxHeartbeats 3200000 in
set_option maxRecDepth 100000 in
theorem lsetting_any (F : Nat → Prop) (X : Nat) (w : World) (dx hx : Option Addr) (dc hc : Nat) (ks : List KeyV) (ms : List SetM) (h : LayAt F w X dx dc hx hc ks ms) (hok : LayOk ks ms) (i : Nat) (hi : i < ms.length) :
    Calls Tryz.prog 26 #[.pointer (some ⟨X, 0, none⟩), .int .i64 i] w fun e w' => ∃ y d, e = .returned (.agg #[.string (ms[i]).x.name, .int .i64 (ms[i]).x.val.kind, .int .i64 (ms[i]).x.val.int, .string (ms[i]).x.val.text, .slice y (ms[i]).x.val.words.length d, .int .i64 (ms[i]).x.from_]) ∧ w'.ownsRow w.heap.size 9 1 (.slice y (ms[i]).x.val.words.length d) (ms[i]).x.val.words.length ((ms[i]).x.val.words.map Value.string) ∧ Below w.heap.size w w' := by
  have hik : i < ks.length := by rw [← hok.len]; exact hi
  have HCA : Hid (∀ W, Below w.heap.size w W → Calls Tryz.prog 54 #[.slice dx ks.length dc, .int .i64 i] W fun e w' => e = .returned (.string (ms[i]).x.name) ∧ W = w') := Lib.hid fun W hb => by
    have := lcalled_any F ks dx ks.length dc i W (h.defs.below hb) rfl hik
    rw [hok.names i hi hik]; exact this
  obtain ⟨b1, b2, b3⟩ := right_bounds (hok.right _ (List.getElem_mem hi))
  obtain ⟨bh, hxe, hF, hbl, hcs, hwd⟩ := h.held i hi
  have HCP : Hid (∀ W, Below w.heap.size w W → Calls Tryz.prog 50 #[argV (ms[i]).x.val (ms[i]).a (ms[i]).c] W fun e w' => ∃ y d, e = .returned (argV (ms[i]).x.val y d) ∧ w'.ownsRow W.heap.size 9 1 (.slice y (ms[i]).x.val.words.length d) (ms[i]).x.val.words.length ((ms[i]).x.val.words.map Value.string) ∧ Below W.heap.size W w') := Lib.hid fun W hb =>
    lcopied_any W (ms[i]).x.val (ms[i]).a (ms[i]).c (TxAt.below hwd.1 hb) (by omega) (fun k hk => by have := b2 k hk; omega) (by omega)
  have e0 : ∀ o, (w.alloc o).cell? ⟨bh, i * 5 + 0, none⟩ = _ := fun o => ((below_one w o).cell (p := ⟨bh, _, none⟩) hbl).trans (hcs 0 (by decide))
  have e1 : ∀ o, (w.alloc o).cell? ⟨bh, i * 5 + 1, none⟩ = _ := fun o => ((below_one w o).cell (p := ⟨bh, _, none⟩) hbl).trans (hcs 1 (by decide))
  have e2 : ∀ o, (w.alloc o).cell? ⟨bh, i * 5 + 2, none⟩ = _ := fun o => ((below_one w o).cell (p := ⟨bh, _, none⟩) hbl).trans (hcs 2 (by decide))
  have e3 : ∀ o, (w.alloc o).cell? ⟨bh, i * 5 + 3, none⟩ = _ := fun o => ((below_one w o).cell (p := ⟨bh, _, none⟩) hbl).trans (hcs 3 (by decide))
  have e4 : ∀ o, (w.alloc o).cell? ⟨bh, i * 5 + 4, none⟩ = _ := fun o => ((below_one w o).cell (p := ⟨bh, _, none⟩) hbl).trans (hcs 4 (by decide))
  simp only [Nat.add_zero] at e0
  have x1 : ∀ o, (w.alloc o).cell? ⟨X, 1, none⟩ = some (.slice hx ms.length hc) := fun o => (h.below (below_one w o)).cells.2
  have HXC : Hid (∀ W, Below w.heap.size w W → W.cell? ⟨X, 0, none⟩ = some (.slice dx ks.length dc)) := Lib.hid fun W hb => (h.below hb).cells.1
  obtain ⟨n, hn⟩ : ∃ n, ms.length = n := ⟨_, rfl⟩
  obtain ⟨n2, hn2⟩ : ∃ n, ks.length = n := ⟨_, rfl⟩
  have q1 : (0 : Int) ≤ i := by omega
  have q2 : (i : Int) < n := by omega
  generalize hmi : ms[i] = m at *
  obtain ⟨⟨nm, ⟨kd, it, tx, ws⟩, fr⟩, a, mc⟩ := m
  unfold argV at HCP
  simp only [hCells, List.getElem?_cons_zero, List.getElem?_cons_succ] at e0 e1 e2 e3 e4 HCP HCA ⊢
  obtain ⟨nw, hnw⟩ : ∃ nw, ws.length = nw := ⟨_, rfl⟩
  simp only [hnw] at e3 HCP
  rw [hnw]
  simp only [hn] at x1
  rw [hn2] at HCA HXC
  subst hxe
  clear h hok hcs hwd hmi hnw hn hn2 b1 b2 b3 hF hik
  go_enter Tryz.func26, Tryz.ntmps26
  go_wp2
  clear e0 e1 e2 e3 e4 x1
  obtain ⟨WA, hWA⟩ : ∃ W, (w.alloc (Obj.cells #[.string ⟨#[]⟩, .int .i64 0, .int .i64 0, .string ⟨#[]⟩, .slice none 0 0, .int .i64 0] 39)).alloc (Obj.cells #[.int .i64 kd, .int .i64 it, .string tx, .slice a nw mc, .int .i64 fr] 107) = W := ⟨_, rfl⟩
  have hbA : Below w.heap.size w WA := by rw [← hWA]; exact (below_one w _).trans ((below_one _ _).mono (below_one w _).size)
  have hsA : WA.heap.size = w.heap.size + 2 := by rw [← hWA]; simp
  have r0 : WA.cell? ⟨w.heap.size, 0, none⟩ = some (.string ⟨#[]⟩) := by rw [← hWA]; simp
  have r1 : WA.cell? ⟨w.heap.size, 1, none⟩ = some (.int .i64 0) := by rw [← hWA]; simp
  have r2 : WA.cell? ⟨w.heap.size, 2, none⟩ = some (.int .i64 0) := by rw [← hWA]; simp
  have r3 : WA.cell? ⟨w.heap.size, 3, none⟩ = some (.string ⟨#[]⟩) := by rw [← hWA]; simp
  have r4 : WA.cell? ⟨w.heap.size, 4, none⟩ = some (.slice none 0 0) := by rw [← hWA]; simp
  have r5 : WA.cell? ⟨w.heap.size, 5, none⟩ = some (.int .i64 0) := by rw [← hWA]; simp
  have hzA : ∀ j, WA.frozen? ⟨w.heap.size, j, none⟩ = false := fun j => by rw [← hWA]; simp
  have h0 : WA.cell? ⟨w.heap.size + 1, 0, none⟩ = some (.int .i64 kd) := by rw [← hWA]; simp
  have h1 : WA.cell? ⟨w.heap.size + 1, 1, none⟩ = some (.int .i64 it) := by rw [← hWA]; simp
  have h2 : WA.cell? ⟨w.heap.size + 1, 2, none⟩ = some (.string tx) := by rw [← hWA]; simp
  have h3 : WA.cell? ⟨w.heap.size + 1, 3, none⟩ = some (.slice a nw mc) := by rw [← hWA]; simp
  have h4 : WA.cell? ⟨w.heap.size + 1, 4, none⟩ = some (.int .i64 fr) := by rw [← hWA]; simp
  have hxA := HXC.out WA hbA
  rw [hWA]
  clear hWA
  have HBA : Hid (Below w.heap.size w WA.drew) := Lib.hid (hbA.trans ((below_drewN WA 1).mono hbA.size))
  have HSA := Lib.hid hsA
  have HR := Lib.hid (And.intro r0 (And.intro r1 (And.intro r2 (And.intro r3 (And.intro r4 r5)))))
  have HZA := Lib.hid hzA
  have HH4 := Lib.hid h4
  have HXA := Lib.hid hxA
  clear hbA hsA r0 r1 r2 r3 r4 r5 hzA
  go_region_law (first
    | (go_simp; (with_reducible refine (HCA.out _ HBA.out).mono ?_); rintro e w2 ⟨rfl, rfl⟩; dsimp only)
    | (go_simp; (with_reducible refine (HCP.out _ HBA.out).mono ?_); rintro e w5 ⟨y, d, rfl, hr5, hb5⟩
       have hle : WA.drew.heap.size = w.heap.size + 2 := HSA.out
       rw [hle] at hr5 hb5
       have g0 := (hb5.cell (p := ⟨w.heap.size, 0, none⟩) (by show w.heap.size < _; omega)).trans HR.out.1
       have g1 := (hb5.cell (p := ⟨w.heap.size, 1, none⟩) (by show w.heap.size < _; omega)).trans HR.out.2.1
       have g2 := (hb5.cell (p := ⟨w.heap.size, 2, none⟩) (by show w.heap.size < _; omega)).trans HR.out.2.2.1
       have g3 := (hb5.cell (p := ⟨w.heap.size, 3, none⟩) (by show w.heap.size < _; omega)).trans HR.out.2.2.2.1
       have g4 := (hb5.cell (p := ⟨w.heap.size, 4, none⟩) (by show w.heap.size < _; omega)).trans HR.out.2.2.2.2.1
       have g5 := (hb5.cell (p := ⟨w.heap.size, 5, none⟩) (by show w.heap.size < _; omega)).trans HR.out.2.2.2.2.2
       have k0 : w5.frozen? ⟨w.heap.size, 0, none⟩ = false := (hb5.frozen (p := ⟨w.heap.size, 0, none⟩) (by show w.heap.size < _; omega)).trans (HZA.out 0)
       have k1 : w5.frozen? ⟨w.heap.size, 1, none⟩ = false := (hb5.frozen (p := ⟨w.heap.size, 1, none⟩) (by show w.heap.size < _; omega)).trans (HZA.out 1)
       have k2 : w5.frozen? ⟨w.heap.size, 2, none⟩ = false := (hb5.frozen (p := ⟨w.heap.size, 2, none⟩) (by show w.heap.size < _; omega)).trans (HZA.out 2)
       have k3 : w5.frozen? ⟨w.heap.size, 3, none⟩ = false := (hb5.frozen (p := ⟨w.heap.size, 3, none⟩) (by show w.heap.size < _; omega)).trans (HZA.out 3)
       have k4 : w5.frozen? ⟨w.heap.size, 4, none⟩ = false := (hb5.frozen (p := ⟨w.heap.size, 4, none⟩) (by show w.heap.size < _; omega)).trans (HZA.out 4)
       have k5 : w5.frozen? ⟨w.heap.size, 5, none⟩ = false := (hb5.frozen (p := ⟨w.heap.size, 5, none⟩) (by show w.heap.size < _; omega)).trans (HZA.out 5)
       have i4 : w5.cell? ⟨w.heap.size + 1, 4, none⟩ = some (.int .i64 fr) := (hb5.cell (p := ⟨w.heap.size + 1, 4, none⟩) (by show w.heap.size + 1 < _; omega)).trans HH4.out
       have HF := Lib.hid (six_set (S := w.heap.size) (B := w.heap.size + 2) (.string nm) (.int .i64 kd) (.int .i64 it) (.string tx) (.slice y nw d) (.int .i64 fr) (HBA.out.trans (hb5.mono (by omega))) (Nat.le_refl _) (cells6 g0 g1 g2 g3 g4 g5) (by omega) hr5)
       clear hr5 hb5 hle; dsimp only))
  all_goals
    obtain ⟨_, _, hc6⟩ := HF.out
    have m0 := hc6 0 _ rfl
    have m1 := hc6 1 _ rfl
    have m2 := hc6 2 _ rfl
    have m3 := hc6 3 _ rfl
    have m4 := hc6 4 _ rfl
    have m5 := hc6 5 _ rfl
    clear hc6
    go_wp2
    exact bodyPost_ret (v := .agg #[.string nm, .int .i64 kd, .int .i64 it, .string tx, .slice y nw d, .int .i64 fr]) (by simp [results, Tryz.results26, go_sem, m0, m1, m2, m3, m4, m5]) rfl ⟨y, d, rfl, HF.out.2.1, HF.out.1⟩
end Go.Proofs.YtlcgfdijohgnpaaGreatDoor

namespace Go.Proofs.YtlcgfdijohgnpaaGreatDoor
open Go.ChangeShapes Go.WideShapes Go.ChangeAt Go.RowKit

def zS : SetM := ⟨⟨⟨#[]⟩, ⟨0, 0, ⟨#[]⟩, []⟩, 0⟩, none, 0⟩
theorem SetsAt.made (w : World) (n : Nat) (hn : n ≤ 1000000) : SetsAt w.heap.size (w.alloc (Obj.cells (sFlat (List.replicate n zS)).toArray 39)) (.slice (some ⟨w.heap.size, 0, none⟩) n n) (List.replicate n zS) := by
 refine ⟨?_, fun m hm => ?_⟩
 ·rw [List.length_replicate]
  exact newRow (Nat.le_refl _) (sFlat (List.replicate n zS)) (by rw [sFlat_len, List.length_replicate]) (by unfold maxLen; omega) rfl
 ·obtain ⟨_, rfl⟩ := List.mem_replicate.1 hm
  exact ⟨fun k hk => by simp [zS] at hk, Nat.le_refl _, fun b off hp => by simp [zS] at hp⟩
theorem sFlat_name (ms : List SetM) (k : Nat) (hk : k < ms.length) (nm : ByteArray) : (sFlat ms).set (k * 6) (.string nm) = sFlat (ms.set k ⟨⟨nm, ms[k].x.val, ms[k].x.from_⟩, ms[k].a, ms[k].c⟩) := by
 have hs := sFlat_len ms
 have hs2 := sFlat_len (ms.set k ⟨⟨nm, ms[k].x.val, ms[k].x.from_⟩, ms[k].a, ms[k].c⟩)
 rw [List.length_set] at hs2
 apply List.ext_getElem?
 intro j
 by_cases hj : j < ms.length * 6
 ·obtain ⟨q, r, hq, hr⟩ : ∃ q r, j = q * 6 + r ∧ r < 6 := ⟨j / 6, j % 6, by omega, by omega⟩
  subst hq
  have hql : q < ms.length := by omega
  rw [sFlat_at _ q (by rw [List.length_set]; exact hql) r hr]
  by_cases hqk : q = k
  ·subst hqk
   rw [List.getElem_set_self]
   by_cases h0 : r = 0
   ·subst h0
    rw [Nat.add_zero, List.getElem?_set_self (by omega)]; rfl
   ·rw [List.getElem?_set_ne (by omega), sFlat_at ms q hql r hr]
    have h5 : r = 1 ∨ r = 2 ∨ r = 3 ∨ r = 4 ∨ r = 5 := by omega
    rcases h5 with rfl | rfl | rfl | rfl | rfl <;> rfl
  ·rw [List.getElem?_set_ne (fun e => hqk (by omega)), sFlat_at ms q hql r hr, List.getElem_set_ne (fun e => hqk e.symm)]
 ·rw [List.getElem?_eq_none (by simp only [List.length_set]; omega), List.getElem?_eq_none (by omega)]
section
variable {B B2 : Nat} {w : World} {ms : List SetM} {g cap n : Nat}
theorem SetsAt.name (h : SetsAt B w (.slice (some ⟨g, 0, none⟩) n cap) ms) (hn : ms.length = n) {k : Nat} (hk : k < ms.length) (nm : ByteArray) :
  SetsAt B (w.setCell ⟨g, k * 6, none⟩ (.string nm)) (.slice (some ⟨g, 0, none⟩) n cap) (ms.set k ⟨⟨nm, ms[k].x.val, ms[k].x.from_⟩, ms[k].a, ms[k].c⟩) := by
 subst hn
 refine ⟨?_, fun m hm => ?_⟩
 ·have h1 := (h.row.stored (k * 6) (.string nm)).1
  rw [sFlat_name ms k hk nm] at h1
  rw [List.length_set]
  exact h1
 ·rcases List.mem_or_eq_of_mem_set hm with hm | rfl
  ·have h0 := h.wds m hm
   exact ⟨h0.grownTx (setGrown w g _ _), h0.2.1, h0.2.2⟩
  ·have h0 := h.wds ms[k] (List.getElem_mem hk)
   exact ⟨h0.grownTx (setGrown w g _ _), h0.2.1, h0.2.2⟩
theorem SetsAt.put6 (h : SetsAt B w (.slice (some ⟨g, 0, none⟩) n cap) ms) (hn : ms.length = n) {k : Nat} (hk : k < ms.length) (nm : ByteArray) (v : Val) (y : Option Addr) (d : Nat) (fr : Int) (hw : w.ownsRow B2 9 1 (.slice y v.words.length d) v.words.length (v.words.map Value.string)) :
  SetsAt B ((((((w.setCell ⟨g, k * 6, none⟩ (.string nm)).setCell ⟨g, k * 6 + 1, none⟩ (.int .i64 v.kind)).setCell ⟨g, k * 6 + 2, none⟩ (.int .i64 v.int)).setCell ⟨g, k * 6 + 3, none⟩ (.string v.text)).setCell ⟨g, k * 6 + 4, none⟩ (.slice y v.words.length d)).setCell ⟨g, k * 6 + 5, none⟩ (.int .i64 fr)) (.slice (some ⟨g, 0, none⟩) n cap) (ms.set k ⟨⟨nm, v, fr⟩, y, d⟩) ∧
  w.grownBy ((((((w.setCell ⟨g, k * 6, none⟩ (.string nm)).setCell ⟨g, k * 6 + 1, none⟩ (.int .i64 v.kind)).setCell ⟨g, k * 6 + 2, none⟩ (.int .i64 v.int)).setCell ⟨g, k * 6 + 3, none⟩ (.string v.text)).setCell ⟨g, k * 6 + 4, none⟩ (.slice y v.words.length d)).setCell ⟨g, k * 6 + 5, none⟩ (.int .i64 fr)) (some g) := by
 have h1 := h.name hn hk nm
 have hk2 : k < (ms.set k ⟨⟨nm, ms[k].x.val, ms[k].x.from_⟩, ms[k].a, ms[k].c⟩).length := by rw [List.length_set]; exact hk
 have hap := rowApart hw h.row (by decide)
 have hw2 := hw.kept (row := some g) (setGrown w g (k * 6) (.string nm)) hap
 obtain ⟨h2, h3⟩ := h1.put (by rw [List.length_set]; exact hn) hk2 v y d fr hw2
 rw [List.set_set] at h2
 have e : ((ms.set k ⟨⟨nm, ms[k].x.val, ms[k].x.from_⟩, ms[k].a, ms[k].c⟩)[k]'hk2).x.name = nm := by rw [List.getElem_set_self]
 rw [e] at h2
 exact ⟨h2, (setGrown w g (k * 6) (.string nm)).trans h3⟩
end
end Go.Proofs.YtlcgfdijohgnpaaGreatDoor

namespace Go.Proofs.YtlcgfdijohgnpaaGreatDoor
open Go.ChangeShapes Go.WideShapes Go.ChangeAt Go.RowKit

def hFlat (ms : List SetM) : List Value := ms.flatMap hCells
theorem hFlat_len (ms : List SetM) : (hFlat ms).length = ms.length * 5 := by
 unfold hFlat
 induction ms with
 | nil => rfl
 | cons m r ih => rw [List.flatMap_cons, List.length_append, ih]; simp [hCells]; omega
theorem hFlat_at (l : List SetM) : ∀ k (h : k < l.length) j, j < 5 → (hFlat l)[k * 5 + j]? = (hCells l[k])[j]? := by
 induction l with
 | nil => intro k h; simp at h
 | cons m r ih =>
  intro k h j hj
  unfold hFlat
  rw [List.flatMap_cons]
  cases k with
  | zero =>
   rw [Nat.zero_mul, Nat.zero_add, List.getElem?_append_left (by simp [hCells]; omega)]
   rfl
  | succ k =>
   rw [List.getElem?_append_right (by simp [hCells]; omega)]
   have := ih k (by simpa using h) j hj
   simp only [List.getElem_cons_succ]
   rw [← this]
   unfold hFlat
   congr 1
   simp [hCells]
   omega
theorem infoHeld : (Tryz.prog.info? 107).map (fun i => (i.zero, i.size, i.bytes)) = some (some (.agg #[.int .i64 0, .int .i64 0, .string ByteArray.empty, .slice none 0 0, .int .i64 0]), 5, 64) := by kernel_rfl
theorem grow_runH (w : World) (b off : Nat) (g o m c : Nat) (news : List Value) (hl : news.length = m * 5) (hnews : ∀ (j : Nat) (v : Value), news[j]? = some v → w.cell? ⟨g, o + j, none⟩ = some v) (hm : 0 < m) (hn : m ≤ 1000000) :
  ∃ c' cur, (∀ ty, (Builtin.append_ #[58, 58] ty #[.slice (some ⟨b, off, none⟩) 0 0, .slice (some ⟨g, o, none⟩) m c]).run Tryz.prog w = .ok (.slice (some ⟨w.heap.size, 0, none⟩) m c') (w.drew.alloc (.cells cur 107))) ∧
   m ≤ c' ∧ c' * 5 = cur.size ∧ ∀ (j : Nat) (v : Value), news[j]? = some v → cur[j]? = some v := by
 obtain ⟨i0, hi, hz0, hz1, hz2⟩ := info_parts infoHeld
 have hle := grownCap_ge w (0 + m) 0 107
 rw [Nat.zero_add] at hle
 have hrun := fun ty => run_append_grow (P := Tryz.prog) w 58 ty 107 i0 _ Tryz.underlying58 hi hz0 ⟨b, off, none⟩ 0 0 [] (by rw [hz1]; rfl) (fun j v hv => by simp at hv) ⟨g, o, none⟩ m c news (by rw [hz1]; exact hl) (fun j v hv => by rw [add_at]; exact hnews j v hv) (by omega) (by omega) (growslice_fits (by omega) (by rw [hz2]; omega))
 simp only [Nat.zero_add] at hrun
 refine ⟨_, _, hrun, hle, ?_, ?_⟩
 ·rw [Array.size_append, Array.size_append, size_zeroCells]
  show _ = (List.toArray ([] : List Value)).size + news.toArray.size + (_ - m) * 5
  simp only [List.size_toArray, List.length_nil, hl]
  omega
 ·intro j v hv
  have hj : j < news.length := (List.getElem?_eq_some_iff.1 hv).1
  rw [show (List.toArray ([] : List Value)) ++ news.toArray = news.toArray by simp, Array.getElem?_append_left (by simpa using hj)]
  rw [List.getElem?_toArray]; exact hv
def HcRes (w : World) (ms : List SetM) (e : Ending) (w' : World) : Prop :=
 ∃ g c' cur, e = .returned (.slice (some ⟨g, 0, none⟩) ms.length c') ∧ w.heap.size ≤ g ∧ Below w.heap.size w w' ∧ w'.heap[g]? = some (.cells cur 107) ∧ ms.length ≤ c' ∧ ∀ (j : Nat) (v : Value), (hFlat ms)[j]? = some v → cur[j]? = some v
theorem HeldAt.flat {F : Nat → Prop} {w : World} {b : Nat} {ms : List SetM} (h : HeldAt F w (some ⟨b, 0, none⟩) ms) (j : Nat) (v : Value) (hv : (hFlat ms)[j]? = some v) : w.cell? ⟨b, j, none⟩ = some v := by
 have hj := (List.getElem?_eq_some_iff.1 hv).1
 rw [hFlat_len] at hj
 obtain ⟨q, r, hq, hr⟩ : ∃ q r, j = q * 5 + r ∧ r < 5 := ⟨j / 5, j % 5, by omega, by omega⟩
 subst hq
 have hql : q < ms.length := by omega
 obtain ⟨b', e, _, _, hc, _⟩ := h q hql
 obtain rfl : b = b' := by simpa using e
 rw [hc r hr, ← hFlat_at ms q hql r hr]
 exact hv
set_option maxHeartbeats 1600000 in
set_option maxRecDepth 100000 in
theorem hclone_any (F : Nat → Prop) (ms : List SetM) (b c : Nat) (w : World) (hx : HeldAt F w (some ⟨b, 0, none⟩) ms) (h0 : 0 < ms.length) (hn : ms.length ≤ 1000000) :
  Calls Tryz.prog 49 #[.slice (some ⟨b, 0, none⟩) ms.length c] w (HcRes w ms) := by
 have hg : ∀ t, ∃ c' cur, (∀ ty, (Builtin.append_ #[58, 58] ty #[.slice (some ⟨w.heap.size, 0, none⟩) 0 0, .slice (some ⟨b, 0, none⟩) ms.length c]).run Tryz.prog (w.alloc (Obj.cells #[] t)) = .ok (.slice (some ⟨w.heap.size + 1, 0, none⟩) ms.length c') ((w.alloc (Obj.cells #[] t)).drew.alloc (.cells cur 107))) ∧ HcRes w ms (.returned (.slice (some ⟨w.heap.size + 1, 0, none⟩) ms.length c')) ((w.alloc (Obj.cells #[] t)).drew.alloc (.cells cur 107)) := fun t => by
  have hb := below_one w (Obj.cells #[] t)
  obtain ⟨c', cur, hr, h1, _, h3⟩ := grow_runH (w.alloc (Obj.cells #[] t)) w.heap.size 0 b 0 ms.length c (hFlat ms) (hFlat_len ms) (fun j v hv => by rw [Nat.zero_add]; exact (hx.below hb).flat j v hv) h0 (by omega)
  have hsz : (w.alloc (Obj.cells #[] t)).heap.size = w.heap.size + 1 := by simp
  rw [hsz] at hr
  refine ⟨c', cur, hr, _, c', cur, rfl, Nat.le_succ _, hb.trans ((below_drew_alloc _ _).mono hb.size), ?_, h1, h3⟩
  rw [← hsz]
  exact heap_alloc_new (w.alloc (Obj.cells #[] t)).drew _
 obtain ⟨c', cur, hr, hE⟩ := hg 107
 have HR := Lib.hid hr
 have HE := Lib.hid hE
 clear hr hE hx hg
 generalize ms.length = n at *
 have hq : ∀ (w : World) (a : Option Addr) (n c n' c' : Nat), (binOp .eql 58 (.slice a n c) (.slice none n' c')).run Tryz.prog w = .ok (.bool a.isNone) w := fun w a n c n' c' => Lib.run_eql_slice_nil w _ _ a n c n' c' Tryz.underlying58
 go_enter Tryz.func49, Tryz.ntmps49
 go_wp2_with (at_builtin; refine wpList_append_eq rfl _ _ _ _ rfl _ _ _ rfl rfl (HR.out _) ?_)
 go_ret
 exact HE.out
def Fn (F : Nat → Prop) (N M : Nat) : Nat → Prop := fun b => F b ∨ (N ≤ b ∧ b < M)
theorem DefsAt.wide {F : Nat → Prop} {w : World} {x : Option Addr} {ks : List KeyV} (h : DefsAt F w x ks) (N M : Nat) : DefsAt (Fn F N M) w x ks := fun i hi => by
 obtain ⟨b, e, hF, r⟩ := h i hi
 exact ⟨b, e, .inl hF, r⟩
theorem WordsAt.wide {F : Nat → Prop} {w : World} {m : SetM} (h : WordsAt F w m) (N M : Nat) : WordsAt (Fn F N M) w m := ⟨h.1, h.2.1, fun b off hp e => .inl (h.2.2 b off hp e)⟩
theorem put_fin {F : Nat → Prop} {w wd : World} {X : Nat} {dx hx : Option Addr} {dc hc : Nat} {ks : List KeyV} {ms : List SetM} (h : LayAt F w X dx dc hx hc ks ms) {g c' : Nat} {cur : Array Value} (hb : But X w wd) (hX : wd.heap[X]? = some (Obj.cells #[.slice dx ks.length dc, .slice (some ⟨g, 0, none⟩) ms.length c'] 60))
  (hg : w.heap.size ≤ g) (hG : wd.heap[g]? = some (.cells cur 107)) (hcur : ∀ (j : Nat) (v : Value), (hFlat ms)[j]? = some v → cur[j]? = some v) (hc' : ms.length ≤ c') {j : Nat} (hj : j < ms.length) (v : Val) (y : Option Addr) (d : Nat) (fr : Int) {B : Nat} (hB : w.heap.size ≤ B) (hr : wd.ownsRow B 9 1 (.slice y v.words.length d) v.words.length (v.words.map Value.string)) :
  LayAt (Fn F w.heap.size wd.heap.size) (((((wd.setCell ⟨g, j * 5, none⟩ (.int .i64 v.kind)).setCell ⟨g, j * 5 + 1, none⟩ (.int .i64 v.int)).setCell ⟨g, j * 5 + 2, none⟩ (.string v.text)).setCell ⟨g, j * 5 + 3, none⟩ (.slice y v.words.length d)).setCell ⟨g, j * 5 + 4, none⟩ (.int .i64 fr)) X dx dc (some ⟨g, 0, none⟩) c' ks (ms.set j ⟨⟨ms[j].x.name, v, fr⟩, y, d⟩) ∧
  But X w (((((wd.setCell ⟨g, j * 5, none⟩ (.int .i64 v.kind)).setCell ⟨g, j * 5 + 1, none⟩ (.int .i64 v.int)).setCell ⟨g, j * 5 + 2, none⟩ (.string v.text)).setCell ⟨g, j * 5 + 3, none⟩ (.slice y v.words.length d)).setCell ⟨g, j * 5 + 4, none⟩ (.int .i64 fr)) := by
 have hXl : X < w.heap.size := heap_ltF h.obj
 obtain ⟨we, hwe⟩ : ∃ we, (((((wd.setCell ⟨g, j * 5, none⟩ (.int .i64 v.kind)).setCell ⟨g, j * 5 + 1, none⟩ (.int .i64 v.int)).setCell ⟨g, j * 5 + 2, none⟩ (.string v.text)).setCell ⟨g, j * 5 + 3, none⟩ (.slice y v.words.length d)).setCell ⟨g, j * 5 + 4, none⟩ (.int .i64 fr)) = we := ⟨_, rfl⟩
 have hgr : wd.grownBy we (some g) := by
  rw [← hwe]
  exact ((((setGrown wd g _ _).trans (setGrown _ g _ _)).trans (setGrown _ g _ _)).trans (setGrown _ g _ _)).trans (setGrown _ g _ _)
 have hbut : But X w we := ⟨hgr.os.trans hb.1, hgr.tape.trans hb.2.1, hgr.output.trans hb.2.2.1, Nat.le_trans hb.2.2.2.1 hgr.size, fun k hk hn => (hgr.block k (Nat.lt_of_lt_of_le hk hb.2.2.2.1) (fun e => by injection e with e; omega)).trans (hb.2.2.2.2 k hk hn)⟩
 have hst : Stay F w we := .of_but hbut h.out
 have hgl : g < wd.heap.size := heap_ltF hG
 have hfl := hFlat_len ms
 have hcell : ∀ i, wd.cell? ⟨g, i, none⟩ = cur[i]? := fun i => cell_of_row wd g i _ _ _ hG
 have hsome : ∀ r, r < 5 → ∃ u, wd.cell? ⟨g, j * 5 + r, none⟩ = some u := fun r hr => by
  rw [hcell]
  exact ⟨_, hcur (j * 5 + r) _ (List.getElem?_eq_getElem (by omega))⟩
 have o : ∀ (W : World) (i k : Nat) (u : Value), i ≠ k → (W.setCell ⟨g, i, none⟩ u).cell? ⟨g, k, none⟩ = W.cell? ⟨g, k, none⟩ := fun W i k u hn => World.cell?_setCell_other _ _ _ _ (fun e => hn (by injection e))
 have s : ∀ (W : World) (i : Nat) (u : Value), (∃ x, W.cell? ⟨g, i, none⟩ = some x) → (W.setCell ⟨g, i, none⟩ u).cell? ⟨g, i, none⟩ = some u := fun W i u ⟨x, hx⟩ => World.cell?_setCell_same _ _ _ hx
 have hother : ∀ i, (∀ r, r < 5 → i ≠ j * 5 + r) → we.cell? ⟨g, i, none⟩ = wd.cell? ⟨g, i, none⟩ := fun i hi => by
  rw [← hwe, o _ _ _ _ (fun e => hi 4 (by decide) e.symm), o _ _ _ _ (fun e => hi 3 (by decide) e.symm), o _ _ _ _ (fun e => hi 2 (by decide) e.symm), o _ _ _ _ (fun e => hi 1 (by decide) e.symm), o _ _ _ _ (fun e => hi 0 (by decide) (by omega))]
 have hmine : ∀ r, r < 5 → we.cell? ⟨g, j * 5 + r, none⟩ = (hCells ⟨⟨ms[j].x.name, v, fr⟩, y, d⟩)[r]? := fun r hr => by
  have h5 : r = 0 ∨ r = 1 ∨ r = 2 ∨ r = 3 ∨ r = 4 := by omega
  have s0 := hsome 0 (by decide)
  have s1 := hsome 1 (by decide)
  have s2 := hsome 2 (by decide)
  have s3 := hsome 3 (by decide)
  have s4 := hsome 4 (by decide)
  rw [Nat.add_zero] at s0
  rw [← hwe]
  rcases h5 with rfl | rfl | rfl | rfl | rfl
  ·simp only [Nat.add_zero]
   rw [o _ _ _ _ (by omega), o _ _ _ _ (by omega), o _ _ _ _ (by omega), o _ _ _ _ (by omega), s _ _ _ s0]; rfl
  ·rw [o _ _ _ _ (by omega), o _ _ _ _ (by omega), o _ _ _ _ (by omega), s _ _ _ (by rw [o _ _ _ _ (by omega)]; exact s1)]; rfl
  ·rw [o _ _ _ _ (by omega), o _ _ _ _ (by omega), s _ _ _ (by rw [o _ _ _ _ (by omega), o _ _ _ _ (by omega)]; exact s2)]; rfl
  ·rw [o _ _ _ _ (by omega), s _ _ _ (by rw [o _ _ _ _ (by omega), o _ _ _ _ (by omega), o _ _ _ _ (by omega)]; exact s3)]; rfl
  ·rw [s _ _ _ (by rw [o _ _ _ _ (by omega), o _ _ _ _ (by omega), o _ _ _ _ (by omega), o _ _ _ _ (by omega)]; exact s4)]; rfl
 rw [hwe]
 have hne : y = none ∨ (Value.slice y v.words.length d).ownBlock ≠ some g := by
  rcases hr.2 with ⟨h1, _⟩ | ⟨g2, cap, cur2, h1, _, hg2, _⟩
  ·injection h1 with h1 _ _; exact .inl h1
  ·right
   rw [h1]
   intro e
   have e : g2 = g := by simpa [Value.ownBlock] using e
   subst e
   rw [hG] at hg2
   injection hg2 with hg2
   injection hg2 with _ ht _
   exact absurd ht (by decide)
 have hrw : we.ownsRow B 9 1 (.slice y v.words.length d) v.words.length (v.words.map Value.string) := hr.kept hgr (by
  rcases hne with h1 | h1
  ·left; rw [h1]; rfl
  ·exact .inr h1)
 refine ⟨⟨?_, (h.defs.stay hst).wide _ _, fun i hi => ?_, ?_, ?_, ?_⟩, hbut⟩
 ·rw [List.length_set, hgr.block X (Nat.lt_of_lt_of_le hXl hb.2.2.2.1) (fun e => by injection e with e; omega)]
  exact hX
 ·rw [List.length_set] at hi
  refine ⟨g, rfl, .inr ⟨hg, hgl⟩, Nat.lt_of_lt_of_le hgl hgr.size, fun r hr5 => ?_, ?_⟩
  ·by_cases e : i = j
   ·subst e
    rw [List.getElem_set_self]
    exact hmine r hr5
   ·rw [List.getElem_set_ne (fun e2 => e e2.symm), hother _ (fun r' hr' e2 => e (by omega)), hcell, ← hFlat_at ms i hi r hr5]
    cases hh : (hFlat ms)[i * 5 + r]? with
    | none => rw [List.getElem?_eq_none_iff] at hh; omega
    | some u => exact hcur _ _ hh
  ·by_cases e : i = j
   ·subst e
    rw [List.getElem_set_self]
    refine ⟨?_, ?_, fun b off hp e2 => ?_⟩
    ·intro k hk
     rcases hrw.2 with ⟨h1, h2⟩ | ⟨g2, cap, cur2, h1, _, hgg, _⟩
     ·simp only at hk; omega
     ·injection h1 with h1 _ _
      subst h1
      refine ⟨g2, 0, rfl, heap_ltF hgg, ?_⟩
      rw [Nat.zero_add, hrw.cellAt k (by simp only at hk; omega), List.getElem?_map, List.getElem?_eq_getElem hk]; rfl
    ·rcases hrw.2 with ⟨h1, h2⟩ | ⟨g2, cap, cur2, h1, _, _, hnc, _⟩
     ·simp only; omega
     ·injection h1 with _ _ h3
      simp only; omega
    ·simp only at e2
     subst e2
     obtain ⟨h3, h4⟩ := hr.lt b rfl
     exact .inr ⟨by omega, h4⟩
   ·rw [List.getElem_set_ne (fun e2 => e e2.symm)]
    obtain ⟨_, _, _, _, _, hw⟩ := h.held i hi
    exact (hw.stay hst).wide _ _
 ·rintro (h1 | h1)
  ·exact h.out h1
  ·omega
 ·rw [List.length_set]; exact hc'
 ·rintro b (h1 | ⟨_, h1⟩)
  ·exact Nat.lt_of_lt_of_le (h.lt b h1) hbut.2.2.2.1
  ·exact Nat.lt_of_lt_of_le h1 hgr.size
end Go.Proofs.YtlcgfdijohgnpaaGreatDoor
