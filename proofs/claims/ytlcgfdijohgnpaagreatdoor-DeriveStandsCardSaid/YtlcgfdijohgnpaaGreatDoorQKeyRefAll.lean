/-
  KeyInsMath, KeyRefAll.
-/
import Derived.Test.YtlcgfdijohgnpaaGreatDoorQKeyRow
import Derived.Test.YtlcgfdijohgnpaaGreatDoorQKeyOrd
import Derived.Test.YtlcgfdijohgnpaaGreatDoorQKeyRefs
namespace Go.Proofs.YtlcgfdijohgnpaaGreatDoor
open Go.ChangeShapes Go.WideShapes Go.ChangeAt Go.RowKit

def DisK (xs : List KeyV) : Prop := ∀ a b (hb : b < xs.length) (h : a < b), cmpB (xs[a]'(Nat.lt_trans h hb)).name xs[b].name ≠ 0
def SortTo (xs : List KeyV) (t : Nat) : Prop := ∀ a b (hb : b < xs.length) (h : a < b), b < t → cmpB (xs[a]'(Nat.lt_trans h hb)).name xs[b].name < 0
def InsAt (xs : List KeyV) (t k : Nat) : Prop := ∀ a b (hb : b < xs.length) (h : a < b), b ≤ t → b ≠ k → cmpB (xs[a]'(Nat.lt_trans h hb)).name xs[b].name < 0
theorem SortTo.ins {xs : List KeyV} {t : Nat} (h : SortTo xs t) : InsAt xs t t := fun a b hb hab hbt hne => h a b hb hab (by omega)
theorem sortTo_one (xs : List KeyV) : SortTo xs 1 := fun a b hb hab h1 => by omega
theorem dis_perm {xs ys : List KeyV} (h : ys.Perm xs) (hd : DisK xs) : DisK ys := by
 have hp : List.Pairwise (fun a b : KeyV => cmpB a.name b.name ≠ 0) xs := List.pairwise_iff_getElem.2 fun i j hi hj hij => hd i j hj hij
 have hs : ∀ {x y : KeyV}, cmpB x.name y.name ≠ 0 → cmpB y.name x.name ≠ 0 := fun {x y} h => by rw [cmpB_anti]; omega
 have h2 := (h.pairwise_iff hs).2 hp
 exact fun a b hb hab => List.pairwise_iff_getElem.1 h2 a b (Nat.lt_trans hab hb) hb hab
theorem Sorted.dis {xs : List KeyV} (h : Sorted xs) : DisK xs := fun a b hb hab => by have := h a b hb hab; omega
theorem InsAt.done {xs : List KeyV} {t k : Nat} (h : InsAt xs t k) (hd : DisK xs) (hk : k ≤ t) (hkl : k < xs.length) (hs : k = 0 ∨ ∃ h0 : 0 < k, ¬ cmpB xs[k].name (xs[k - 1]'(by omega)).name < 0) : SortTo xs (t + 1) := fun a b hb hab hbt => by
 by_cases e : b = k
 ·subst e
  rcases hs with rfl | ⟨h0, hs⟩
  ·omega
  ·have h1 := hd (b - 1) b hb (by omega)
   have h2 : cmpB (xs[b - 1]'(by omega)).name xs[b].name < 0 := by
    rw [cmpB_anti] at hs
    omega
   by_cases ea : a = b - 1
   ·subst ea; exact h2
   ·exact cmpB_trans (h a (b - 1) (by omega) (by omega) (by omega) (by omega)) h2
 ·exact h a b hb hab (by omega) e
def swapK (xs : List KeyV) (k : Nat) (h : k < xs.length) : List KeyV := (xs.set k (xs[k - 1]'(by omega))).set (k - 1) xs[k]
theorem swapK_perm (xs : List KeyV) (k : Nat) (h : k < xs.length) : (swapK xs k h).Perm xs := List.set_set_perm h (by omega)
theorem swapK_len (xs : List KeyV) (k : Nat) (h : k < xs.length) : (swapK xs k h).length = xs.length := by unfold swapK; simp
theorem swapK_at (xs : List KeyV) (k : Nat) (h : k < xs.length) (h0 : 0 < k) (i : Nat) (hi : i < xs.length) : (swapK xs k h)[i]'(by rw [swapK_len]; exact hi) = if i = k - 1 then xs[k] else if i = k then xs[k - 1]'(by omega) else xs[i] := by
 unfold swapK
 rw [List.getElem_set]
 by_cases e : k - 1 = i
 ·rw [if_pos e, if_pos e.symm]
 ·rw [if_neg e, if_neg (fun h => e h.symm), List.getElem_set]
  by_cases e2 : k = i
  ·rw [if_pos e2, if_pos e2.symm]
  ·rw [if_neg e2, if_neg (fun h => e2 h.symm)]
theorem InsAt.step {xs : List KeyV} {t k : Nat} (h : InsAt xs t k) (hk : k ≤ t) (h0 : 0 < k) (hkl : k < xs.length) (hs : cmpB xs[k].name (xs[k - 1]'(by omega)).name < 0) : InsAt (swapK xs k hkl) t (k - 1) := fun a b hb hab hbt hne => by
 have hb' : b < xs.length := by rw [swapK_len] at hb; exact hb
 rw [swapK_at xs k hkl h0 a (by omega), swapK_at xs k hkl h0 b hb']
 rw [if_neg hne]
 by_cases eb : b = k
 ·subst eb
  rw [if_pos rfl]
  by_cases ea : a = b - 1
  ·rw [if_pos ea]; exact hs
  ·rw [if_neg ea, if_neg (by omega)]
   exact h a (b - 1) (by omega) (by omega) (by omega) (by omega)
 ·rw [if_neg eb]
  by_cases ea : a = k - 1
  ·rw [if_pos ea]
   exact h k b hb' (by omega) hbt eb
  ·rw [if_neg ea]
   by_cases ea2 : a = k
   ·rw [if_pos ea2]
    exact h (k - 1) b hb' (by omega) hbt eb
   ·rw [if_neg ea2]
    exact h a b hb' hab hbt eb
theorem sorted_one {xs ys : List KeyV} (h : ys.Perm xs) (hs : Sorted xs) (hy : SortTo ys ys.length) : ys = xs := by
 refine List.Perm.eq_of_pairwise (le := fun a b : KeyV => cmpB a.name b.name < 0) (fun a b _ _ h1 h2 => ?_) (List.pairwise_iff_getElem.2 fun i j hi hj hij => hy i j hj hij hj) (List.pairwise_iff_getElem.2 fun i j hi hj hij => hs i j hj hij) h
 have h1' : cmpB a.name b.name < 0 := h1
 have h2' : cmpB b.name a.name < 0 := h2
 rw [cmpB_anti] at h2'
 omega
theorem flat_set6 (xs : List KeyV) (k : Nat) (hk : k < xs.length) (y : KeyV) :
  (((((((flat xs).set (k * 6) (.string y.name)).set (k * 6 + 1) (.int .i64 y.kind)).set (k * 6 + 2) (.string y.dflt)).set (k * 6 + 3) (.int .i64 y.least)).set (k * 6 + 4) (.int .i64 y.most)).set (k * 6 + 5) (.string y.letter)) = flat (xs.set k y) := by
 have hs := flat_len xs
 have hs2 := flat_len (xs.set k y)
 rw [List.length_set] at hs2
 apply List.ext_getElem?
 intro j
 by_cases hj : j < xs.length * 6
 ·obtain ⟨q, r, hq, hr⟩ : ∃ q r, j = q * 6 + r ∧ r < 6 := ⟨j / 6, j % 6, by omega, by omega⟩
  subst hq
  have hql : q < xs.length := by omega
  rw [flat_get _ q r (by rw [List.length_set]; exact hql) hr]
  by_cases hqk : q = k
  ·subst hqk
   rw [List.getElem_set_self]
   have h6 : r = 0 ∨ r = 1 ∨ r = 2 ∨ r = 3 ∨ r = 4 ∨ r = 5 := by omega
   rcases h6 with rfl | rfl | rfl | rfl | rfl | rfl
   ·rw [List.getElem?_set_ne (by omega), List.getElem?_set_ne (by omega), List.getElem?_set_ne (by omega), List.getElem?_set_ne (by omega), List.getElem?_set_ne (by omega), Nat.add_zero, List.getElem?_set_self (by omega)]; rfl
   ·rw [List.getElem?_set_ne (by omega), List.getElem?_set_ne (by omega), List.getElem?_set_ne (by omega), List.getElem?_set_ne (by omega), List.getElem?_set_self (by rw [List.length_set]; omega)]; rfl
   ·rw [List.getElem?_set_ne (by omega), List.getElem?_set_ne (by omega), List.getElem?_set_ne (by omega), List.getElem?_set_self (by simp only [List.length_set]; omega)]; rfl
   ·rw [List.getElem?_set_ne (by omega), List.getElem?_set_ne (by omega), List.getElem?_set_self (by simp only [List.length_set]; omega)]; rfl
   ·rw [List.getElem?_set_ne (by omega), List.getElem?_set_self (by simp only [List.length_set]; omega)]; rfl
   ·rw [List.getElem?_set_self (by simp only [List.length_set]; omega)]; rfl
  ·have hne : ¬ k = q := fun e => hqk e.symm
   have hdis : ∀ i, i < 6 → k * 6 + i ≠ q * 6 + r := fun i hi => by
    intro e
    have : k = q := by omega
    exact hne this
   have h00 : k * 6 ≠ q * 6 + r := hdis 0 (by decide)
   rw [List.getElem?_set_ne (hdis 5 (by decide)), List.getElem?_set_ne (hdis 4 (by decide)), List.getElem?_set_ne (hdis 3 (by decide)), List.getElem?_set_ne (hdis 2 (by decide)), List.getElem?_set_ne (hdis 1 (by decide)), List.getElem?_set_ne h00, flat_get xs q r hql hr, List.getElem_set_ne hne]
 ·rw [List.getElem?_eq_none (by simp only [List.length_set]; omega), List.getElem?_eq_none (by omega)]
end Go.Proofs.YtlcgfdijohgnpaaGreatDoor

namespace Go.Proofs.YtlcgfdijohgnpaaGreatDoor
open Go.ChangeShapes Go.WideShapes Go.ChangeAt Go.RowKit

def Pre (W : World) (G : Nat) (l : List Value) : Prop := ∃ cur, W.heap[G]? = some (Obj.cells cur 90 (0, 0)) ∧ ∀ (j : Nat) (v : Value), l[j]? = some v → cur[j]? = some v
section
variable {W W' : World} {G : Nat} {l : List Value}
theorem Pre.lt (h : Pre W G l) : G < W.heap.size := by obtain ⟨_, h, _⟩ := h; exact (Array.getElem?_eq_some_iff.1 h).1
theorem Pre.same (h : Pre W G l) (hb : W'.heap[G]? = W.heap[G]?) : Pre W' G l := by obtain ⟨cur, h1, h2⟩ := h; exact ⟨cur, hb.trans h1, h2⟩
theorem Pre.drew (h : Pre W G l) : Pre W.drew G l := h.same rfl
theorem Pre.cell (h : Pre W G l) {j : Nat} {v : Value} (hj : l[j]? = some v) : W.cell? ⟨G, j, none⟩ = some v := by
 obtain ⟨cur, h1, h2⟩ := h
 rw [cell_of_row W G j _ _ _ h1]; exact h2 j v hj
theorem Pre.frozen (h : Pre W G l) (j : Nat) : W.frozen? ⟨G, j, none⟩ = false := by
 obtain ⟨cur, h1, _⟩ := h
 simp [World.frozen?, h1]
theorem Pre.set (h : Pre W G l) (j : Nat) (u : Value) : Pre (W.setCell ⟨G, j, none⟩ u) G (l.set j u) := by
 obtain ⟨cur, h1, h2⟩ := h
 refine ⟨cur.setIfInBounds j u, by simp [World.setCell, Array.getElem?_modify, h1], fun i v hi => ?_⟩
 rw [Array.getElem?_setIfInBounds]
 by_cases e : j = i
 ·subst e
  by_cases hl : j < l.length
  ·rw [List.getElem?_set_self hl] at hi
   have hc := h2 j l[j] (List.getElem?_eq_getElem hl)
   have hs := (Array.getElem?_eq_some_iff.1 hc).1
   rw [if_pos rfl, if_pos hs]; exact hi
  ·rw [List.getElem?_eq_none (by rw [List.length_set]; omega)] at hi
   cases hi
 ·rw [if_neg e]
  rw [List.getElem?_set_ne e] at hi
  exact h2 i v hi
theorem Pre.set6 {xs : List KeyV} (h : Pre W G (flat xs)) {k : Nat} (hk : k < xs.length) (y : KeyV) :
  Pre ((((((W.setCell ⟨G, k * 6, none⟩ (.string y.name)).setCell ⟨G, k * 6 + 1, none⟩ (.int .i64 y.kind)).setCell ⟨G, k * 6 + 2, none⟩ (.string y.dflt)).setCell ⟨G, k * 6 + 3, none⟩ (.int .i64 y.least)).setCell ⟨G, k * 6 + 4, none⟩ (.int .i64 y.most)).setCell ⟨G, k * 6 + 5, none⟩ (.string y.letter)) G (flat (xs.set k y)) := by
 rw [← flat_set6 xs k hk y]
 exact (((((h.set _ _).set _ _).set _ _).set _ _).set _ _).set _ _
theorem Pre.key {xs : List KeyV} (h : Pre W G (flat xs)) {k : Nat} (hk : k < xs.length) : ∀ r, r < 6 → W.cell? ⟨G, k * 6 + r, none⟩ = (kCells xs[k])[r]? := fun r hr => by
 have := flat_get xs k r hk hr
 have hx : (kCells xs[k])[r]? = some ((kCells xs[k])[r]'(by simp [kCells]; omega)) := List.getElem?_eq_getElem _
 rw [hx] at this ⊢
 exact h.cell this
theorem Pre.keys {xs : List KeyV} (h : Pre W G (flat xs)) : Keys W (some ⟨G, 0, none⟩) xs := by
 obtain ⟨cur, h1, h2⟩ := h
 exact Keys.of_block h1 h2
end
structure AlAt (w wr : World) (G : Nat) (xs zs : List KeyV) : Prop where
 perm : zs.Perm xs
 pre : Pre wr G (flat zs)
 below : Below w.heap.size w wr
theorem less_is (a b : ByteArray) : Op.bytesLess a.toList b.toList = decide (cmpB a b < 0) := by rw [toList_eq, toList_eq, less_cmp]; rfl
theorem below_drew2 {B : Nat} {w W : World} (h : Below B w W) : Below B w W.drew := ⟨h.os, h.tape, h.output, h.size, h.block⟩
def put6 (W : World) (G p : Nat) (y : KeyV) : World := (((((W.setCell ⟨G, p, none⟩ (.string y.name)).setCell ⟨G, p + 1, none⟩ (.int .i64 y.kind)).setCell ⟨G, p + 2, none⟩ (.string y.dflt)).setCell ⟨G, p + 3, none⟩ (.int .i64 y.least)).setCell ⟨G, p + 4, none⟩ (.int .i64 y.most)).setCell ⟨G, p + 5, none⟩ (.string y.letter)
theorem below_put6 {B : Nat} {w W : World} (h : Below B w W) {G : Nat} (hG : B ≤ G) (p : Nat) (y : KeyV) : Below B w (put6 W G p y) :=
 (((((h.setCell (p := ⟨G, p, none⟩) hG _).setCell (p := ⟨G, p + 1, none⟩) hG _).setCell (p := ⟨G, p + 2, none⟩) hG _).setCell (p := ⟨G, p + 3, none⟩) hG _).setCell (p := ⟨G, p + 4, none⟩) hG _).setCell (p := ⟨G, p + 5, none⟩) hG _
set_option maxHeartbeats 3200000 in
set_option maxRecDepth 100000 in
theorem refAllP_any (xs ys : List KeyV) (hp : ys.Perm xs) (hs : Sorted xs) (S : Nat) (x : Option Addr) (c : Nat) (w : World) (h : SetAt w S x c ys) (h0 : 0 < ys.length) (hn : ys.length ≤ 1000000) :
  Calls Tryz.prog 39 #[.pointer (some ⟨S, 0, none⟩)] w (InsRes w xs) := by
 have hc := h.cell
 obtain ⟨b, hxe⟩ : ∃ b, x = some ⟨b, 0, none⟩ := by obtain ⟨b, hxe, _⟩ := h.keys 0 h0; exact ⟨b, hxe⟩
 subst hxe
 obtain ⟨c', cur, hr, h1, h2', h3⟩ := first_run w b 0 ys.length c (flat ys) (flat_len ys) (fun j v hv => by rw [Nat.zero_add]; exact h.keys.flat j v hv) h0 hn
 have HE : Hid (AlAt w (w.drew.alloc (.cells cur 90)) w.heap.size xs ys) := Lib.hid ⟨hp, ⟨cur, heap_alloc_new w.drew _, h3⟩, below_drew_alloc w _⟩
 have HR := Lib.hid hr
 have HQ := Lib.hid hs
 have HLN : Hid (∀ zs : List KeyV, zs.Perm xs → zs.length = ys.length) := Lib.hid fun zs hz => (hz.trans hp.symm).length_eq
 have HXL : Hid (xs.length = ys.length) := Lib.hid hp.symm.length_eq
 obtain ⟨n, hn'⟩ : ∃ n, ys.length = n := ⟨_, rfl⟩
 rw [hn'] at hn h0 hc HR HLN HXL
 have hnc : n ≤ c' := by rw [← hn']; exact h1
 clear hr h h3 hn' hs h1 h2' hp
 go_enter Tryz.func39, Tryz.ntmps39
 go_wp2_with (at_builtin; refine wpList_append_eq rfl _ _ _ _ rfl _ _ _ rfl rfl (HR.out _) ?_)
 refine gen_world (fun W => AlAt w W w.heap.size xs ys) HE.out ?_
 intro wa hA
 have HA := Lib.hid hA
 obtain ⟨G, hG⟩ : ∃ G, w.heap.size = G := ⟨_, rfl⟩
 have HG := Lib.hid hG
 rw [hG] at HA ⊢
 clear hA HE HR hG
 go_loopw [4, 5, 6] (fun i _ _ wr => ∃ (t : Nat) (zs : List KeyV), i = .int .i64 t ∧ 1 ≤ t ∧ t ≤ n ∧ Hid (AlAt w wr G xs zs ∧ SortTo zs t)) (fun i _ _ _ => n - (intOf i).toNat)
 case atStart => exact ⟨1, ys, rfl, by omega, by omega, Lib.hid ⟨HA.out, sortTo_one ys⟩⟩
 case round =>
  clear HA
  obtain ⟨t, zs, rfl, ht1, ht, HK⟩ := hrel
  by_cases hlt : t < n
  ·have r1 : (t : Int) < n := by omega
   have HI0 : Hid (AlAt w wr G xs zs ∧ InsAt zs t t) := Lib.hid ⟨HK.out.1, HK.out.2.ins⟩
   obtain ⟨wo, hwo⟩ : ∃ wo : World, wo = wr := ⟨_, rfl⟩
   subst hwo
   go_wp2
   go_loopw [5, 6] (fun j _ wr => ∃ (k : Nat) (zs : List KeyV), j = .int .i64 k ∧ k ≤ t ∧ Hid (AlAt w wr G xs zs ∧ InsAt zs t k)) (fun j _ _ => (intOf j).toNat)
   case atStart => exact ⟨t, zs, rfl, by omega, HI0⟩
   case round =>
    clear HI0 HK
    obtain ⟨k, zs, rfl, hkt, HK⟩ := hrel
    have hzl := HLN.out zs HK.out.1.perm
    by_cases hk0 : k = 0
    ·subst hk0
     have HN : Hid (AlAt w wr.drew G xs zs ∧ SortTo zs (t + 1)) := Lib.hid
      ⟨⟨HK.out.1.perm, HK.out.1.pre.same rfl, HK.out.1.below.trans ((below_drewN wr 1).mono HK.out.1.below.size)⟩, HK.out.2.done (dis_perm HK.out.1.perm HQ.out.dis) (by omega) (by omega) (.inl rfl)⟩
     go_wp2
     go_region
     all_goals
      go_wp2
      go_roundw
      case rel => exact ⟨t + 1, zs, by go_num, by omega, by omega, HN⟩
      case measure => simp [intOf]; omega
    ·obtain ⟨q, rfl⟩ : ∃ q, k = q + 1 := ⟨k - 1, by omega⟩
     have hq1 : q + 1 < zs.length := by omega
     have hq0 : q < zs.length := by omega
     have a0 := HK.out.1.pre.key hq1 0 (by decide)
     have b0 := HK.out.1.pre.key hq0 0 (by decide)
     rw [Nat.add_zero] at a0 b0
     replace a0 : wr.cell? ⟨G, (q + 1) * 6, none⟩ = some (.string zs[q + 1].name) := a0
     replace b0 : wr.cell? ⟨G, q * 6, none⟩ = some (.string zs[q].name) := b0
     have r2 : (0 : Int) ≤ q := by omega
     have r3 : (q : Int) < n := by omega
     have r4 : (0 : Int) < ((q + 1 : Nat) : Int) := by omega
     have r5 : (0 : Int) ≤ ((q + 1 : Nat) : Int) := by omega
     have r6 : ((q + 1 : Nat) : Int) - 1 = q := by omega
     have r7 : ((q + 1 : Nat) : Int) < n := by omega
     have hls := less_is zs[q + 1].name zs[q].name
     by_cases hless : cmpB zs[q + 1].name zs[q].name < 0
     ·rw [decide_eq_true hless] at hls
      have hswap : InsAt (swapK zs (q + 1) hq1) t q := HK.out.2.step hkt (by omega) hq1 hless
      have hperm : (swapK zs (q + 1) hq1).Perm xs := (swapK_perm zs (q + 1) hq1).trans HK.out.1.perm
      have hkA := HK.out.1.pre.key hq1
      have hGlt := HK.out.1.pre.lt
      have HP1 : ∀ o, Pre (wr.alloc o) G (flat zs) := fun o => HK.out.1.pre.same ((below_one wr o).block G hGlt)
      obtain ⟨ka, hka⟩ : ∃ ka, zs[q] = ka := ⟨_, rfl⟩
      obtain ⟨kb, hkb⟩ : ∃ kb, zs[q + 1] = kb := ⟨_, rfl⟩
      have hsw : swapK zs (q + 1) hq1 = (zs.set (q + 1) ka).set q kb := by unfold swapK; simp only [Nat.add_sub_cancel]; rw [hka, hkb]
      have HP2 : ∀ o, Pre (put6 (wr.alloc o) G ((q + 1) * 6) ka) G (flat (zs.set (q + 1) ka)) := fun o => (HP1 o).set6 hq1 ka
      have HP3 : ∀ o, Pre (put6 (put6 (wr.alloc o) G ((q + 1) * 6) ka) G (q * 6) kb) G (flat ((zs.set (q + 1) ka).set q kb)) := fun o => (HP2 o).set6 (by rw [List.length_set]; exact hq0) kb
      have hGG : w.heap.size ≤ G := by rw [HG.out]; exact Nat.le_refl _
      have HN : Hid (∀ o, AlAt w (put6 (put6 (wr.alloc o) G ((q + 1) * 6) ka) G (q * 6) kb).drew G xs ((zs.set (q + 1) ka).set q kb) ∧ InsAt ((zs.set (q + 1) ka).set q kb) t q) := Lib.hid fun o => by
       rw [hsw] at hswap hperm
       have hbl : Below w.heap.size w (put6 (put6 (wr.alloc o) G ((q + 1) * 6) ka) G (q * 6) kb) := below_put6 (below_put6 (HK.out.1.below.trans ((below_one wr o).mono HK.out.1.below.size)) hGG _ _) hGG _ _
       exact ⟨⟨hperm, (HP3 o).drew, below_drew2 hbl⟩, hswap⟩
      have hA1 := fun o => (HP1 o).key hq1
      have hB1 := fun o => (HP1 o).key hq0
      have hB2 := fun o => (HP2 o).key (k := q) (by rw [List.length_set]; exact hq0)
      have hset : (zs.set (q + 1) ka)[q]'(by rw [List.length_set]; exact hq0) = ka := by rw [List.getElem_set_ne (by omega)]; exact hka
      rw [hkb] at hkA hA1
      rw [hka] at hB1
      rw [hset] at hB2
      have hz1 := fun o j => (HP1 o).frozen j
      have hz2 := fun o j => (HP2 o).frozen j
      have hne1 : ¬ G = wr.heap.size := by omega
      have hne2 : ¬ wr.heap.size = G := by omega
      clear a0
      have a0 : wr.cell? ⟨G, (q + 1) * 6, none⟩ = some (.string kb.name) := hkA 0 (by decide)
      have a0' : ∀ o, (wr.alloc o).cell? ⟨G, (q + 1) * 6, none⟩ = some (.string kb.name) := fun o => hA1 o 0 (by decide)
      have b0' : ∀ o, (wr.alloc o).cell? ⟨G, q * 6, none⟩ = some (.string ka.name) := fun o => hB1 o 0 (by decide)
      have c0' : ∀ o, (put6 (wr.alloc o) G ((q + 1) * 6) ka).cell? ⟨G, q * 6, none⟩ = some (.string ka.name) := fun o => hB2 o 0 (by decide)
      have a1 : wr.cell? ⟨G, (q + 1) * 6 + 1, none⟩ = some (.int .i64 kb.kind) := hkA 1 (by decide)
      have a1' : ∀ o, (wr.alloc o).cell? ⟨G, (q + 1) * 6 + 1, none⟩ = some (.int .i64 kb.kind) := fun o => hA1 o 1 (by decide)
      have b1' : ∀ o, (wr.alloc o).cell? ⟨G, q * 6 + 1, none⟩ = some (.int .i64 ka.kind) := fun o => hB1 o 1 (by decide)
      have c1' : ∀ o, (put6 (wr.alloc o) G ((q + 1) * 6) ka).cell? ⟨G, q * 6 + 1, none⟩ = some (.int .i64 ka.kind) := fun o => hB2 o 1 (by decide)
      have a2 : wr.cell? ⟨G, (q + 1) * 6 + 2, none⟩ = some (.string kb.dflt) := hkA 2 (by decide)
      have a2' : ∀ o, (wr.alloc o).cell? ⟨G, (q + 1) * 6 + 2, none⟩ = some (.string kb.dflt) := fun o => hA1 o 2 (by decide)
      have b2' : ∀ o, (wr.alloc o).cell? ⟨G, q * 6 + 2, none⟩ = some (.string ka.dflt) := fun o => hB1 o 2 (by decide)
      have c2' : ∀ o, (put6 (wr.alloc o) G ((q + 1) * 6) ka).cell? ⟨G, q * 6 + 2, none⟩ = some (.string ka.dflt) := fun o => hB2 o 2 (by decide)
      have a3 : wr.cell? ⟨G, (q + 1) * 6 + 3, none⟩ = some (.int .i64 kb.least) := hkA 3 (by decide)
      have a3' : ∀ o, (wr.alloc o).cell? ⟨G, (q + 1) * 6 + 3, none⟩ = some (.int .i64 kb.least) := fun o => hA1 o 3 (by decide)
      have b3' : ∀ o, (wr.alloc o).cell? ⟨G, q * 6 + 3, none⟩ = some (.int .i64 ka.least) := fun o => hB1 o 3 (by decide)
      have c3' : ∀ o, (put6 (wr.alloc o) G ((q + 1) * 6) ka).cell? ⟨G, q * 6 + 3, none⟩ = some (.int .i64 ka.least) := fun o => hB2 o 3 (by decide)
      have a4 : wr.cell? ⟨G, (q + 1) * 6 + 4, none⟩ = some (.int .i64 kb.most) := hkA 4 (by decide)
      have a4' : ∀ o, (wr.alloc o).cell? ⟨G, (q + 1) * 6 + 4, none⟩ = some (.int .i64 kb.most) := fun o => hA1 o 4 (by decide)
      have b4' : ∀ o, (wr.alloc o).cell? ⟨G, q * 6 + 4, none⟩ = some (.int .i64 ka.most) := fun o => hB1 o 4 (by decide)
      have c4' : ∀ o, (put6 (wr.alloc o) G ((q + 1) * 6) ka).cell? ⟨G, q * 6 + 4, none⟩ = some (.int .i64 ka.most) := fun o => hB2 o 4 (by decide)
      have a5 : wr.cell? ⟨G, (q + 1) * 6 + 5, none⟩ = some (.string kb.letter) := hkA 5 (by decide)
      have a5' : ∀ o, (wr.alloc o).cell? ⟨G, (q + 1) * 6 + 5, none⟩ = some (.string kb.letter) := fun o => hA1 o 5 (by decide)
      have b5' : ∀ o, (wr.alloc o).cell? ⟨G, q * 6 + 5, none⟩ = some (.string ka.letter) := fun o => hB1 o 5 (by decide)
      have c5' : ∀ o, (put6 (wr.alloc o) G ((q + 1) * 6) ka).cell? ⟨G, q * 6 + 5, none⟩ = some (.string ka.letter) := fun o => hB2 o 5 (by decide)
      rw [hkb, hka] at hls
      rw [hka] at b0
      clear hswap hperm hkA HP1 HP2 HP3 hA1 hB1 hB2 hset hsw hka hkb hless hq1 hq0 hzl hGlt
      unfold put6 at c0' c1' c2' c3' c4' c5' hz2 HN
      go_wp2
      go_region
      all_goals
       go_wp2
       exact ⟨⟨q, _, rfl, by omega, Lib.hid (HN.out _)⟩, by simp [intOf]⟩
     ·rw [decide_eq_false hless] at hls
      have HN : Hid (AlAt w wr.drew G xs zs ∧ SortTo zs (t + 1)) := Lib.hid
       ⟨⟨HK.out.1.perm, HK.out.1.pre.same rfl, HK.out.1.below.trans ((below_drewN wr 1).mono HK.out.1.below.size)⟩, HK.out.2.done (dis_perm HK.out.1.perm HQ.out.dis) (by omega) hq1 (.inr ⟨by omega, hless⟩)⟩
      generalize zs[q + 1].name = kb at a0 hls
      generalize zs[q].name = ka at b0 hls
      clear hless hq1 hq0 hzl
      go_wp2
      go_region
      all_goals
       go_wp2
       go_roundw
       case rel => exact ⟨t + 1, zs, by go_num, by omega, by omega, HN⟩
       case measure => simp [intOf]; omega
  ·obtain rfl : t = n := by omega
   have q2 : ¬ (t : Int) < t := by omega
   have HF : Hid (InsRes w xs (.returned (.slice (some ⟨G, 0, none⟩) t c')) wr) := Lib.hid (by
    have hl := HLN.out zs HK.out.1.perm
    have e := sorted_one HK.out.1.perm HQ.out (by rw [hl]; exact HK.out.2)
    have hp := HK.out.1.pre
    rw [e] at hp
    refine ⟨G, c', by rw [HXL.out], by rw [HG.out]; exact Nat.le_refl _, by rw [HXL.out]; exact hnc, hp.keys, HK.out.1.below⟩)
   go_wp2
   go_ret
   exact HF.out
end Go.Proofs.YtlcgfdijohgnpaaGreatDoor
