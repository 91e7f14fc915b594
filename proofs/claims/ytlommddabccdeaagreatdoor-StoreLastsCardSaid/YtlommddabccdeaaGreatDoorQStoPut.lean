/-
  StoChg, StoPut.
-/
import Derived.Test.YtlommddabccdeaaGreatDoorQStoObj
namespace Go.Proofs.YtlommddabccdeaaGreatDoor
open Go.ChangeShapes Go.WideShapes Go.ChangeAt Go.RowKit

theorem chgF_behind {ps nx : List PairV} (hx : Rise nx) (t k : ByteArray) (o : Option ByteArray) : ∀ t' k', updK (chgF ps nx) t k (if o = lookP ps t k then none else some (conV o)) t' k' = chgF ps (behindL nx t k o) t' k' := by
 intro t' k'
 unfold updK chgF
 rw [look_behind hx]
 by_cases e : t' = t ∧ k' = k
 ·obtain ⟨rfl, rfl⟩ := e
  simp only [and_self, if_true]
 ·rw [if_neg e, if_neg e]
theorem chg_le {w : World} {G n : Nat} {ps nx : List PairV} (hp : Rise ps) (hx : Rise nx) (h : KMap w G n (chgF ps nx)) : n ≤ ps.length + nx.length := by
 refine Nat.le_trans (h.le (chgPl ps nx) fun t k _ _ hs => ?_) (chgPl_len ps nx)
 rw [mem_chgPl hp hx]
 unfold chgF at hs
 split at hs
 ·cases hs
 ·assumption
section
variable (w : World) (S : Nat) (D : DskP) (d : DskV) (FS : List Nat) (X : StoX)
theorem chg_boxes (t k : ByteArray) (B : Bool) (V : ByteArray) {W : World} (hW : Below ((w.alloc (.cells #[.string t, .string k] 66)).alloc (.cells #[.bool B, .string V] 68)).heap.size ((w.alloc (.cells #[.string t, .string k] 66)).alloc (.cells #[.bool B, .string V] 68)) W) :
  W.heap[w.heap.size]? = some (.cells #[.string t, .string k] 66 (0, 0)) ∧ W.heap[w.heap.size + 1]? = some (.cells #[.bool B, .string V] 68 (0, 0)) ∧ Below w.heap.size w W := by
 have h1 := heap_alloc_new w (.cells #[.string t, .string k] 66)
 have h2 := (heap_alloc_old (w.alloc (.cells #[.string t, .string k] 66)) (.cells #[.bool B, .string V] 68) (by simp : w.heap.size < _)).trans h1
 have h3 := heap_alloc_new (w.alloc (.cells #[.string t, .string k] 66)) (.cells #[.bool B, .string V] 68)
 have e : (w.alloc (.cells #[.string t, .string k] 66)).heap.size = w.heap.size + 1 := by simp
 rw [e] at h3
 exact ⟨(hW.block _ (by simp; omega)).trans h2, (hW.block _ (by simp)).trans h3, ((((Below.refl _ w).alloc (Nat.le_refl _) _).alloc (by simp) _)).trans (hW.mono (by simp; omega))⟩
set_option maxRecDepth 100000 in
theorem change_bad (t k : ByteArray) (B : Bool) (V : ByteArray) (hT : Tab w) (ht : t.size ≤ 1000) (hk : k.size ≤ 1000) (hb : (wordB t.data.toList && wordB k.data.toList && decide (V.size ≤ 200)) = false) :
  Calls Tryz.prog 26 #[.pointer (some ⟨S, 0, none⟩), .agg #[.string t, .string k], .agg #[.bool B, .string V]] w fun e w' => e = .returned (.int .i64 150) ∧ Below w.heap.size w w' := by
 have HW0 : Hid (Below ((w.alloc (.cells #[.string t, .string k] 66)).alloc (.cells #[.bool B, .string V] 68)).heap.size ((w.alloc (.cells #[.string t, .string k] 66)).alloc (.cells #[.bool B, .string V] 68)) ((w.alloc (.cells #[.string t, .string k] 66)).alloc (.cells #[.bool B, .string V] 68))) := Lib.hid (Below.refl _ _)
 have HBX := Lib.hid (fun W hW => chg_boxes w t k B V (W := W) hW)
 have HR : Hid (∀ W, Below w.heap.size w W → Calls Tryz.prog 42 #[.agg #[.string t, .string k]] W fun e w' => e = .returned (.bool (wordB t.data.toList && wordB k.data.toList)) ∧ Below W.heap.size W w') := Lib.hid fun W hW => plcRight_any t k W (hT.below hW) (by unfold maxLen; omega) (by unfold maxLen; omega)
 have HC : Hid (∀ W, Calls Tryz.prog 43 #[.agg #[.bool B, .string V]] W fun e w' => e = .returned (.bool (decide (V.size ≤ 200))) ∧ Below W.heap.size W w') := Lib.hid fun W => conRight_any B V W
 cases h1 : (wordB t.data.toList && wordB k.data.toList)
 ·rw [h1] at HR
  clear hT ht hk hb h1 HC
  go_enter Tryz.func26, Tryz.ntmps26
  go_wp2_with (go_at_call 42; refine (HR.out _ (HBX.out _ HW0.out).2.2).mono ?_; rintro e w2 ⟨rfl, hb2⟩; have HB2 := Lib.hid ((HBX.out _ HW0.out).2.2.trans (hb2.mono (HBX.out _ HW0.out).2.2.size)); clear hb2)
  go_ret
  exact ⟨rfl, HB2.out⟩
 ·rw [h1] at HR hb
  have h2 : decide (V.size ≤ 200) = false := by simpa using hb
  rw [h2] at HC
  clear hT ht hk hb h1 h2
  go_enter Tryz.func26, Tryz.ntmps26
  go_wp2_with (first
   | (go_at_call 42; refine (HR.out _ (HBX.out _ HW0.out).2.2).mono ?_; rintro e w2 ⟨rfl, hb2⟩; have HB2 := Lib.hid hb2; obtain ⟨_, x1, _⟩ := HBX.out _ hb2; have c0 := cell_at x1 (k := 0) rfl; have c1 := cell_at x1 (k := 1) rfl; clear hb2 x1)
   | (go_at_call 43; refine (HC.out _).mono ?_; rintro e w3 ⟨rfl, hb3⟩; have HB3 := Lib.hid (HB2.out.trans (hb3.mono HB2.out.size)); clear hb3))
  go_ret
  exact ⟨rfl, (HBX.out _ HB3.out).2.2⟩
set_option maxHeartbeats 800000 in
set_option maxRecDepth 100000 in
theorem change_shut (h : StoOk w S D d FS X) (ho : X.opn = false) (t k : ByteArray) (B : Bool) (V : ByteArray) (hT : Tab w) (ht : t.size ≤ 1000) (hk : k.size ≤ 1000) (hb : (wordB t.data.toList && wordB k.data.toList && decide (V.size ≤ 200)) = true) :
  Calls Tryz.prog 26 #[.pointer (some ⟨S, 0, none⟩), .agg #[.string t, .string k], .agg #[.bool B, .string V]] w fun e w' => e = .returned (.int .i64 151) ∧ Below w.heap.size w w' := by
 obtain ⟨J, C, og, hM, rfl⟩ := h.sto
 have HW0 : Hid (Below ((w.alloc (.cells #[.string t, .string k] 66)).alloc (.cells #[.bool B, .string V] 68)).heap.size ((w.alloc (.cells #[.string t, .string k] 66)).alloc (.cells #[.bool B, .string V] 68)) ((w.alloc (.cells #[.string t, .string k] 66)).alloc (.cells #[.bool B, .string V] 68))) := Lib.hid (Below.refl _ _)
 have HBX := Lib.hid (fun W hW => chg_boxes w t k B V (W := W) hW)
 simp only [Bool.and_eq_true] at hb
 have HR : Hid (∀ W, Below w.heap.size w W → Calls Tryz.prog 42 #[.agg #[.string t, .string k]] W fun e w' => e = .returned (.bool true) ∧ Below W.heap.size W w') := Lib.hid fun W hW => by
  have := plcRight_any t k W (hT.below hW) (by unfold maxLen; omega) (by unfold maxLen; omega)
  rw [hb.1.1, hb.1.2] at this
  exact this
 have HC : Hid (∀ W, Calls Tryz.prog 43 #[.agg #[.bool B, .string V]] W fun e w' => e = .returned (.bool true) ∧ Below W.heap.size W w') := Lib.hid fun W => by
  have := conRight_any B V W
  rw [hb.2] at this
  exact this
 have HCK : Hid (∀ W, Below w.heap.size w W → Calls Tryz.prog 25 #[.pointer (some ⟨S, 0, none⟩), .bool true] W fun e w' => e = .returned (.int .i64 151) ∧ W = w') := Lib.hid fun W hW => by
  have := scheck_any W S J C og D d X (hM.kept fun k hk => hW.block k (h.sto.lt k (by
   obtain ⟨J', C', og', hM', e⟩ := h.sto
   exact hk))) (h.dsk.below hW) h.set.live true
  rw [if_neg (by rw [ho]; decide)] at this
  exact this
 clear h ho hM hT ht hk hb
 go_enter Tryz.func26, Tryz.ntmps26
 go_wp2_with (first
  | (go_at_call 42; refine (HR.out _ (HBX.out _ HW0.out).2.2).mono ?_; rintro e w2 ⟨rfl, hb2⟩; have HB2 := Lib.hid hb2; obtain ⟨_, x1, _⟩ := HBX.out _ hb2; have c0 := cell_at x1 (k := 0) rfl; have c1 := cell_at x1 (k := 1) rfl; clear hb2 x1)
  | (go_at_call 43; refine (HC.out _).mono ?_; rintro e w3 ⟨rfl, hb3⟩; have HB3 := Lib.hid (HB2.out.trans (hb3.mono HB2.out.size)); clear hb3)
  | (go_at_call 25; refine (HCK.out _ (HBX.out _ HB3.out).2.2).mono ?_; rintro e w4 ⟨rfl, rfl⟩))
 go_ret
 exact ⟨rfl, (HBX.out _ HB3.out).2.2⟩
set_option maxHeartbeats 1600000 in
set_option maxRecDepth 100000 in
theorem change_any (h : StoOk w S D d FS X) (ho : X.opn = true) (hn : X.nx.length ≤ 60) (t k : ByteArray) (o : Option ByteArray) (hT : Tab w) (hb : okP ⟨t, k, o.getD emB⟩ = true) :
  Calls Tryz.prog 26 #[.pointer (some ⟨S, 0, none⟩), .agg #[.string t, .string k], conV o] w fun e w' => e = .returned (.int .i64 0) ∧ StoStep w S D.p FS { X with nx := behindL X.nx t k o } w' := by
 obtain ⟨sT, sK, sV⟩ := okP_sizes hb
 simp only at sT sK
 obtain ⟨J, C, og, hM, rfl⟩ := h.sto
 obtain ⟨G, hG⟩ : ∃ G, og = some G := by
  have := hM.chg.1
  rw [ho] at this
  exact Option.isSome_iff_exists.1 this.symm
 subst hG
 obtain ⟨hGC, m, hmG⟩ := hM.chg.2 G rfl
 obtain ⟨n, hmC⟩ := hM.com
 obtain ⟨B, V, hBV, hV⟩ : ∃ B V, conV o = .agg #[.bool B, .string V] ∧ o.getD emB = V := by cases o <;> exact ⟨_, _, rfl, rfl⟩
 have hb' := hb
 unfold okP at hb'
 simp only [hV] at hb' sV
 simp only [Bool.and_eq_true] at hb'
 have HW0 : Hid (Below ((w.alloc (.cells #[.string t, .string k] 66)).alloc (.cells #[.bool B, .string V] 68)).heap.size ((w.alloc (.cells #[.string t, .string k] 66)).alloc (.cells #[.bool B, .string V] 68)) ((w.alloc (.cells #[.string t, .string k] 66)).alloc (.cells #[.bool B, .string V] 68))) := Lib.hid (Below.refl _ _)
 have HBX := Lib.hid (fun W hW => chg_boxes w t k B V (W := W) hW)
 have HR : Hid (∀ W, Below w.heap.size w W → Calls Tryz.prog 42 #[.agg #[.string t, .string k]] W fun e w' => e = .returned (.bool true) ∧ Below W.heap.size W w') := Lib.hid fun W hW => by
  have := plcRight_any t k W (hT.below hW) (by unfold maxLen; omega) (by unfold maxLen; omega)
  rw [hb'.1.1, hb'.1.2] at this
  exact this
 have HC : Hid (∀ W, Calls Tryz.prog 43 #[.agg #[.bool B, .string V]] W fun e w' => e = .returned (.bool true) ∧ Below W.heap.size W w') := Lib.hid fun W => by
  have := conRight_any B V W
  rw [hb'.2] at this
  exact this
 have HKP : Hid (∀ W, Below w.heap.size w W → StoM W S D.p J C (some G) X) := Lib.hid fun W hW => hM.kept fun k hk => hW.block k (by
  obtain ⟨l1, l2, l3, l4⟩ := hM.lts
  simp at hk
  rcases hk with rfl | rfl | rfl | rfl
  ·exact l1
  ·exact l2
  ·exact l3
  ·exact l4 _ rfl)
 have HCK : Hid (∀ W, Below w.heap.size w W → Calls Tryz.prog 25 #[.pointer (some ⟨S, 0, none⟩), .bool true] W fun e w' => e = .returned (.int .i64 0) ∧ W = w') := Lib.hid fun W hW => by
  have := scheck_any W S J C (some G) D d X (HKP.out W hW) (h.dsk.below hW) h.set.live true
  rw [if_pos ho.symm] at this
  exact this
 have HMX : Hid (∀ W n, KMap W G n (chgF X.ps X.nx) → n < maxLen) := Lib.hid fun W n hm => by
  have h1 := chg_le h.rise.1 (h.nrise ho).1 hm
  have h2 := h.rise.2.2
  unfold maxLen; omega
 have HFIN : Hid (∀ W w' n', Below w.heap.size w W → KMap w' G n' (updK (chgF X.ps X.nx) t k (if o = lookP X.ps t k then none else some (conV o))) → W.grownBy w' (some G) → StoStep w S D.p (S :: J :: C :: (some G).toList) { X with nx := behindL X.nx t k o } w') := Lib.hid fun W w' n' hW hm hg => by
  have h1 := HKP.out W hW
  obtain ⟨l1, l2, l3, l4⟩ := h1.lts
  obtain ⟨n1, n2, n3, n4⟩ := h1.ne
  obtain ⟨n5, n6⟩ := n4 G rfl
  refine ⟨S :: J :: C :: (some G).toList, ⟨J, C, some G, ?_, rfl⟩, ?_, fun k hk => Or.inl hk⟩
  ·have := h1.changed (w' := w') (og' := some G) (nx := behindL X.nx t k o) (opn := true) ((hg.block S l1 (by simpa using n5)).trans h1.obj) (fun k hk => hg.block k (by rcases hk with rfl | rfl <;> assumption) (by rcases hk with rfl | rfl <;> simp <;> omega)) ⟨rfl, fun G' e => by
    injection e with e
    subst e
    exact ⟨hGC, n', hm.ext (chgF_behind (h.nrise ho).1 t k o)⟩⟩
   rw [← ho] at this
   exact this
  ·refine (Upd.of_below hW).trans (G := [G]) ⟨hg.os, hg.tape, hg.output, hg.size, fun k hk hn => hg.block k hk (by simpa using hn)⟩ (fun x hx => ?_)
   rw [List.mem_singleton] at hx
   left; simp [hx]
 have HMG : Hid (∀ W, Below w.heap.size w W → KMap W G m (chgF X.ps X.nx) ∧ KMap W C n (comF X.ps)) := Lib.hid fun W hW => ⟨hmG.below hW, hmC.below hW⟩
 have HZ : Hid (t.size ≤ maxLen ∧ k.size ≤ maxLen ∧ t.size ≤ 1000 ∧ k.size ≤ 1000 ∧ V.size ≤ 1000) := Lib.hid (by unfold maxLen; omega)
 obtain ⟨B2, V2, hB2⟩ : ∃ B2 V2, conV (lookP X.ps t k) = .agg #[.bool B2, .string V2] := by cases lookP X.ps t k <;> exact ⟨_, _, rfl⟩
 have hlook : ∀ W, KMap W C n (comF X.ps) → (Instr.lookup 59 (.map (some C)) (.agg #[.string t, .string k]) false).run Tryz.prog W = .ok (.agg #[.bool B2, .string V2]) W := fun W hm =>
  hm.look Tryz.underlying59 (zeroC W) t k HZ.out.1 HZ.out.2.1 (by rw [comF_getD, hB2])
 have hgd := fun x y W => eqlC_guard x y #[.bool B, .string V] #[.bool B2, .string V2] W
 rw [hBV]
 have hlS := hM.lts.1
 have HSL := Lib.hid (And.intro hlS (hM.lts.2.2.2 G rfl))
 have HNE := Lib.hid (hM.ne.2.2.2 G rfl)
 have HSC : Hid (∀ w3, Below ((w.alloc (.cells #[.string t, .string k] 66)).alloc (.cells #[.bool B, .string V] 68)).heap.size ((w.alloc (.cells #[.string t, .string k] 66)).alloc (.cells #[.bool B, .string V] 68)) w3 → ∀ W : World, (∀ q, q = S ∨ q = w.heap.size ∨ q = w.heap.size + 1 → W.heap[q]? = w3.heap[q]?) → W.cell? ⟨S, 1, none⟩ = some (.map (some C)) ∧ W.cell? ⟨S, 2, none⟩ = some (.map (some G)) ∧ W.cell? ⟨w.heap.size, 0, none⟩ = some (.string t) ∧ W.cell? ⟨w.heap.size, 1, none⟩ = some (.string k) ∧ W.cell? ⟨w.heap.size + 1, 0, none⟩ = some (.bool B) ∧ W.cell? ⟨w.heap.size + 1, 1, none⟩ = some (.string V)) := Lib.hid fun w3 h3 W hk => by
  obtain ⟨b1, b2, b3⟩ := HBX.out _ h3
  have a0 := (hk S (Or.inl rfl)).trans (HKP.out _ b3).obj
  have a1 := (hk _ (Or.inr (Or.inl rfl))).trans b1
  have a2 := (hk _ (Or.inr (Or.inr rfl))).trans b2
  exact ⟨cell_at a0 (k := 1) rfl, cell_at a0 (k := 2) rfl, cell_at a1 (k := 0) rfl, cell_at a1 (k := 1) rfl, cell_at a2 (k := 0) rfl, cell_at a2 (k := 1) rfl⟩
 by_cases he : o = lookP X.ps t k
 ·have heq : ∀ W, (binOp .eql 68 (.agg #[.bool B, .string V]) (.agg #[.bool B2, .string V2])).run Tryz.prog W = .ok (.bool true) W := fun W => by
   rw [← hBV, ← hB2, eqlC]
   congr 2
   exact decide_eq_true he
  rw [if_pos he] at HFIN
  clear h ho hM hT hb hb' hmG hmC sT sK sV hn hB2 he hlS hGC
  go_enter Tryz.func26, Tryz.ntmps26
  go_wp2_with (first
   | (go_at_call 42; refine (HR.out _ (HBX.out _ HW0.out).2.2).mono ?_; rintro e w2 ⟨rfl, hb2⟩; have HB2 := Lib.hid hb2; obtain ⟨_, x1, _⟩ := HBX.out _ hb2; have c0 := cell_at x1 (k := 0) rfl; have c1 := cell_at x1 (k := 1) rfl; clear hb2 x1)
   | (go_at_call 43; refine (HC.out _).mono ?_; rintro e w3 ⟨rfl, hb3⟩; have HB3 := Lib.hid (HB2.out.trans (hb3.mono HB2.out.size)); clear hb3)
   | (go_at_call 25; refine (HCK.out _ (HBX.out _ HB3.out).2.2).mono ?_; rintro e w4 ⟨rfl, rfl⟩))
  clear c0 c1
  have HB3b := Lib.hid (HBX.out _ HB3.out).2.2
  have HD1 : Hid (Below w.heap.size w w3.drew) := Lib.hid HB3b.out.drew
  have HD2 : Hid (Below w.heap.size w w3.drew.drew) := Lib.hid HB3b.out.drew.drew
  have HSW := Lib.hid (HSC.out w3 HB3.out)
  have HSB : Hid (∀ q, q = S ∨ q = w.heap.size ∨ q = w.heap.size + 1 → q < w3.heap.size ∧ some q ≠ some G) := Lib.hid fun q hq => by
   have hz := HB3.out.size
   have hl := HSL.out
   have hn := HNE.out
   simp at hz
   refine ⟨by rcases hq with rfl | rfl | rfl <;> omega, fun e => ?_⟩
   injection e with e
   rcases hq with rfl | rfl | rfl <;> omega
  go_region_held3 (fun W => KMap W C n (comF X.ps) ∧ W.cell? ⟨S, 1, none⟩ = some (.map (some C)) ∧ W.cell? ⟨S, 2, none⟩ = some (.map (some G)) ∧ W.cell? ⟨w.heap.size, 0, none⟩ = some (.string t) ∧ W.cell? ⟨w.heap.size, 1, none⟩ = some (.string k) ∧ W.cell? ⟨w.heap.size + 1, 0, none⟩ = some (.bool B) ∧ W.cell? ⟨w.heap.size + 1, 1, none⟩ = some (.string V)) (exact ⟨(HMG.out _ HD1.out).2, HSW.out _ fun _ _ => rfl⟩) (fail)
  go_wp2
  go_region_held3 (fun W => W.cell? ⟨S, 1, none⟩ = some (.map (some C)) ∧ W.cell? ⟨S, 2, none⟩ = some (.map (some G)) ∧ W.cell? ⟨w.heap.size, 0, none⟩ = some (.string t) ∧ W.cell? ⟨w.heap.size, 1, none⟩ = some (.string k) ∧ W.cell? ⟨w.heap.size + 1, 0, none⟩ = some (.bool B) ∧ W.cell? ⟨w.heap.size + 1, 1, none⟩ = some (.string V)) (first | exact KS.out | exact HSW.out _ fun _ _ => rfl)
   (first
    | (refine step_drop_k rfl _ _ _ _ rfl Tryz.underlying59 rfl t k rfl (HMG.out _ HD2.out).1 HZ.out.1 HZ.out.2.1 ?_; intro w5 n5 hm5 hg5; have H5 := Lib.hid (And.intro hm5 hg5); have KS := Lib.hid (HSW.out w5 fun q hq => hg5.block q (HSB.out q hq).1 (HSB.out q hq).2); clear hm5 hg5; dsimp only)
    | fail)
  go_wp2
  go_ret
  exact ⟨rfl, HFIN.out _ _ _ HD2.out H5.out.1 H5.out.2⟩
 ·have heq : ∀ W, (binOp .eql 68 (.agg #[.bool B, .string V]) (.agg #[.bool B2, .string V2])).run Tryz.prog W = .ok (.bool false) W := fun W => by
   rw [← hBV, ← hB2, eqlC]
   congr 2
   exact decide_eq_false he
  rw [if_neg he] at HFIN
  clear h ho hM hT hb hb' hmG hmC sT sK sV hn hB2 he hlS hGC
  go_enter Tryz.func26, Tryz.ntmps26
  go_wp2_with (first
   | (go_at_call 42; refine (HR.out _ (HBX.out _ HW0.out).2.2).mono ?_; rintro e w2 ⟨rfl, hb2⟩; have HB2 := Lib.hid hb2; obtain ⟨_, x1, _⟩ := HBX.out _ hb2; have c0 := cell_at x1 (k := 0) rfl; have c1 := cell_at x1 (k := 1) rfl; clear hb2 x1)
   | (go_at_call 43; refine (HC.out _).mono ?_; rintro e w3 ⟨rfl, hb3⟩; have HB3 := Lib.hid (HB2.out.trans (hb3.mono HB2.out.size)); clear hb3)
   | (go_at_call 25; refine (HCK.out _ (HBX.out _ HB3.out).2.2).mono ?_; rintro e w4 ⟨rfl, rfl⟩))
  clear c0 c1
  have HB3b := Lib.hid (HBX.out _ HB3.out).2.2
  have HD1 : Hid (Below w.heap.size w w3.drew) := Lib.hid HB3b.out.drew
  have HD2 : Hid (Below w.heap.size w w3.drew.drew) := Lib.hid HB3b.out.drew.drew
  have HSW := Lib.hid (HSC.out w3 HB3.out)
  have HSB : Hid (∀ q, q = S ∨ q = w.heap.size ∨ q = w.heap.size + 1 → q < w3.heap.size ∧ some q ≠ some G) := Lib.hid fun q hq => by
   have hz := HB3.out.size
   have hl := HSL.out
   have hn := HNE.out
   simp at hz
   refine ⟨by rcases hq with rfl | rfl | rfl <;> omega, fun e => ?_⟩
   injection e with e
   rcases hq with rfl | rfl | rfl <;> omega
  go_region_held3 (fun W => KMap W C n (comF X.ps) ∧ W.cell? ⟨S, 1, none⟩ = some (.map (some C)) ∧ W.cell? ⟨S, 2, none⟩ = some (.map (some G)) ∧ W.cell? ⟨w.heap.size, 0, none⟩ = some (.string t) ∧ W.cell? ⟨w.heap.size, 1, none⟩ = some (.string k) ∧ W.cell? ⟨w.heap.size + 1, 0, none⟩ = some (.bool B) ∧ W.cell? ⟨w.heap.size + 1, 1, none⟩ = some (.string V)) (exact ⟨(HMG.out _ HD1.out).2, HSW.out _ fun _ _ => rfl⟩) (fail)
  go_wp2
  have HCP : Hid (∀ W, Calls Tryz.prog 45 #[.agg #[.string t, .string k]] W fun e w' => e = .returned (.agg #[.string t, .string k]) ∧ Below W.heap.size W w') := Lib.hid fun W => plcClone_any t k W HZ.out.2.2.1 HZ.out.2.2.2.1
  have HCC : Hid (∀ W, Calls Tryz.prog 44 #[.agg #[.bool B, .string V]] W fun e w' => e = .returned (.agg #[.bool B, .string V]) ∧ Below W.heap.size W w') := Lib.hid fun W => conClone_any B V W HZ.out.2.2.2.2
  have HK5 : Hid (∀ w5, Below w3.drew.drew.heap.size w3.drew.drew w5 → ∀ q, q = S ∨ q = w.heap.size ∨ q = w.heap.size + 1 → w5.heap[q]? = w3.heap[q]?) := Lib.hid fun w5 hb q hq => hb.block q (HSB.out q hq).1
  have HPU : Hid (∀ w6, Below w3.drew.drew.heap.size w3.drew.drew w6 → ∃ w9 n9, (Instr.mapUpdate 59 (.map (some G)) (.agg #[.string t, .string k]) (.agg #[.bool B, .string V])).run Tryz.prog w6 = .ok () w9 ∧ KMap w9 G n9 (updK (chgF X.ps X.nx) t k (some (conV o))) ∧ w6.grownBy w9 (some G)) := Lib.hid fun w6 hb => by
   have hm := (HMG.out w6 (HD2.out.trans (hb.mono HD2.out.size))).1
   obtain ⟨w9, hrun, ⟨n9, hm9⟩, hg9⟩ := hm.put Tryz.underlying59 (HMX.out _ _ hm) t k HZ.out.1 HZ.out.2.1 (conV o)
   rw [hBV] at hrun
   exact ⟨w9, n9, hrun, hm9, hg9⟩
  go_region_held3 (fun W => W.cell? ⟨S, 1, none⟩ = some (.map (some C)) ∧ W.cell? ⟨S, 2, none⟩ = some (.map (some G)) ∧ W.cell? ⟨w.heap.size, 0, none⟩ = some (.string t) ∧ W.cell? ⟨w.heap.size, 1, none⟩ = some (.string k) ∧ W.cell? ⟨w.heap.size + 1, 0, none⟩ = some (.bool B) ∧ W.cell? ⟨w.heap.size + 1, 1, none⟩ = some (.string V)) (first | exact KS3.out | exact KS2.out | exact KS.out | exact HSW.out _ fun _ _ => rfl)
   (first
    | (go_at_call 45; (with_reducible refine (HCP.out _).mono ?_); rintro e w5 ⟨rfl, hb5⟩; have HB5 := Lib.hid hb5; have KS := Lib.hid (HSW.out w5 (HK5.out w5 hb5)); clear hb5; dsimp only)
    | (go_at_call 44; (with_reducible refine (HCC.out _).mono ?_); rintro e w6 ⟨rfl, hb6⟩; have HB6 := Lib.hid (HB5.out.trans (hb6.mono HB5.out.size)); have KS2 := Lib.hid (HSW.out w6 (HK5.out w6 HB6.out)); obtain ⟨w9, n9, hrun9, hm9, hg9⟩ := HPU.out w6 HB6.out; have H9 := Lib.hid (And.intro hm9 hg9); have KS3 := Lib.hid (HSW.out w9 fun q hq => (hg9.block q (Nat.lt_of_lt_of_le (HSB.out q hq).1 HB6.out.size) (HSB.out q hq).2).trans (HK5.out w6 HB6.out q hq)); clear hb6 hm9 hg9; dsimp only)
    | fail)
  go_wp2
  go_ret
  exact ⟨rfl, HFIN.out _ _ _ (HD2.out.trans (HB6.out.mono HD2.out.size)) H9.out.1 H9.out.2⟩
end
end Go.Proofs.YtlommddabccdeaaGreatDoor

namespace Go.Proofs.YtlommddabccdeaaGreatDoor
open Go.ChangeShapes Go.WideShapes Go.ChangeAt Go.RowKit

theorem StoStep.after {w w1 w' : World} {S p : Nat} {FS : List Nat} {X' : StoX} (h : StoStep w1 S p FS X' w') (hb : Below w.heap.size w w1) : StoStep w S p FS X' w' := by
 obtain ⟨FS', h1, h2, h3⟩ := h
 exact ⟨FS', h1, (Upd.of_below hb).trans h2 fun _ hx => Or.inl hx, fun k hk => (h3 k hk).imp id (Nat.le_trans hb.size)⟩
theorem StoOk.below {w w' : World} {S : Nat} {D : DskP} {d : DskV} {FS : List Nat} {X : StoX} (h : StoOk w S D d FS X) (hb : Below w.heap.size w w') : StoOk w' S D d FS X :=
 ⟨h.sto.kept fun k hk => hb.block k (h.sto.lt k hk), h.dsk.below hb, h.set, h.img, h.rds, h.rise, h.nrise, h.apart⟩
section
variable (w : World) (S : Nat) (D : DskP) (d : DskV) (FS : List Nat) (X : StoX)
theorem put_of (p : PairV) (R : Int) (Q : World → Prop) (hc : ∀ o, Calls Tryz.prog 26 #[.pointer (some ⟨S, 0, none⟩), .agg #[.string p.table, .string p.key], .agg #[.bool true, .string p.value]] (w.alloc o) fun e w' => e = .returned (.int .i64 R) ∧ Q w') :
  Calls Tryz.prog 12 #[.pointer (some ⟨S, 0, none⟩), pV p] w fun e w' => e = .returned (.int .i64 R) ∧ Q w' := by
 obtain ⟨t, k, v⟩ := p
 have H := Lib.hid hc
 clear hc
 unfold pV
 simp only at H
 go_enter Tryz.func12, Tryz.ntmps12
 go_wp2_with (go_at_call 26; refine (H.out _).mono ?_; rintro e w2 ⟨rfl, hq⟩; have HQ := Lib.hid hq; clear hq)
 go_ret
 exact ⟨rfl, HQ.out⟩
theorem drop_of (t k : ByteArray) (R : Int) (Q : World → Prop) (hc : Calls Tryz.prog 26 #[.pointer (some ⟨S, 0, none⟩), .agg #[.string t, .string k], .agg #[.bool false, .string emB]] w fun e w' => e = .returned (.int .i64 R) ∧ Q w') :
  Calls Tryz.prog 11 #[.pointer (some ⟨S, 0, none⟩), .string t, .string k] w fun e w' => e = .returned (.int .i64 R) ∧ Q w' := by
 have H := Lib.hid hc
 clear hc
 unfold emB at H
 go_enter Tryz.func11, Tryz.ntmps11
 go_wp2_with (go_at_call 26; refine H.out.mono ?_; rintro e w2 ⟨rfl, hq⟩; have HQ := Lib.hid hq; clear hq)
 go_ret
 exact ⟨rfl, HQ.out⟩
theorem put_pair (h : StoOk w S D d FS X) (ho : X.opn = true) (hn : X.nx.length ≤ 60) (p : PairV) (hp : okP p = true) (hT : StdX w) :
  Calls Tryz.prog 12 #[.pointer (some ⟨S, 0, none⟩), pV p] w fun e w' => e = .returned (.int .i64 0) ∧ StoStep w S D.p FS { X with nx := behindL X.nx p.table p.key (some p.value) } w' :=
 put_of w S p 0 _ fun o => by
  have hb : Below w.heap.size w (w.alloc o) := (Below.refl _ w).alloc (Nat.le_refl _) _
  exact (change_any (w.alloc o) S D d FS X (h.below hb) ho hn p.table p.key (some p.value) (hT.1.below hb) hp).mono fun e w' ⟨he, hs⟩ => ⟨he, hs.after hb⟩
theorem drop_any (h : StoOk w S D d FS X) (ho : X.opn = true) (hn : X.nx.length ≤ 60) (t k : ByteArray) (hp : okP ⟨t, k, emB⟩ = true) (hT : StdX w) :
  Calls Tryz.prog 11 #[.pointer (some ⟨S, 0, none⟩), .string t, .string k] w fun e w' => e = .returned (.int .i64 0) ∧ StoStep w S D.p FS { X with nx := behindL X.nx t k none } w' :=
 drop_of w S t k 0 _ (change_any w S D d FS X h ho hn t k none hT.1 hp)
theorem put_shut (h : StoOk w S D d FS X) (ho : X.opn = false) (p : PairV) (hp : okP p = true) (hT : StdX w) :
  Calls Tryz.prog 12 #[.pointer (some ⟨S, 0, none⟩), pV p] w fun e w' => e = .returned (.int .i64 151) ∧ Below w.heap.size w w' :=
 put_of w S p 151 _ fun o => by
  have hb : Below w.heap.size w (w.alloc o) := (Below.refl _ w).alloc (Nat.le_refl _) _
  obtain ⟨s1, s2, _⟩ := okP_sizes hp
  exact (change_shut (w.alloc o) S D d FS X (h.below hb) ho p.table p.key true p.value (hT.1.below hb) (by omega) (by omega) hp).mono fun e w' ⟨he, hs⟩ => ⟨he, hb.trans (hs.mono hb.size)⟩
theorem put_bad (p : PairV) (hp : okP p = false) (hz : p.table.size ≤ 1000 ∧ p.key.size ≤ 1000) (hT : StdX w) :
  Calls Tryz.prog 12 #[.pointer (some ⟨S, 0, none⟩), pV p] w fun e w' => e = .returned (.int .i64 150) ∧ Below w.heap.size w w' :=
 put_of w S p 150 _ fun o => by
  have hb : Below w.heap.size w (w.alloc o) := (Below.refl _ w).alloc (Nat.le_refl _) _
  exact (change_bad (w.alloc o) S p.table p.key true p.value (hT.1.below hb) hz.1 hz.2 hp).mono fun e w' ⟨he, hs⟩ => ⟨he, hb.trans (hs.mono hb.size)⟩
end
end Go.Proofs.YtlommddabccdeaaGreatDoor
