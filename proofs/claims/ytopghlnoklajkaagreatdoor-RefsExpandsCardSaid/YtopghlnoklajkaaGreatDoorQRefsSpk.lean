/-
  RefsExW, RefsWay, RefsSpk.
-/
import Derived.Test.YtopghlnoklajkaaGreatDoorQRefsNmW
import Derived.Shelf.Strings.BuilderK
import Derived.Test.YtopghlnoklajkaaGreatDoorQValueWords
import Derived.Test.YtopghlnoklajkaaGreatDoorQSetAll
import Derived.Test.YtopghlnoklajkaaGreatDoorQSetPut
namespace Go.Proofs.YtopghlnoklajkaaGreatDoor
open Go.ChangeShapes Go.WideShapes Go.ChangeAt Go.RowKit

def Bld (B b : Nat) (l : List UInt8) (w : World) : Prop := Lib.IsBuilderF (Tryz.lays156_ren.t 72) (Tryz.lays156_ren.t 5) B b (Lib.byteCells l) w
theorem bAt_below {T e : TypeId} {B b : Nat} {p : Value} {bs : List Value} {w w' : World} (h : Lib.BuilderAtF T e B b p bs w) (hb : Below w.heap.size w w') : Lib.BuilderAtF T e B b p bs w' := by
 have hlt := h.lt
 obtain ⟨hB, v, hk, hown, hne⟩ := h
 exact ⟨hB, v, (hb.block b hlt).trans hk, hown.kept (row := none) ⟨hb.os, hb.tape, hb.output, hb.size, fun k hk _ => hb.block k hk⟩ (by cases hv : v.ownBlock <;> simp), hne⟩
theorem Bld.below {B b : Nat} {l : List UInt8} {w w' : World} (h : Bld B b l w) (hb : Below w.heap.size w w') : Bld B b l w' := by
 rcases h with h | h
 ·exact .inl (bAt_below h hb)
 ·exact .inr (bAt_below h hb)
theorem Bld.lt {B b : Nat} {l : List UInt8} {w : World} (h : Bld B b l w) : b < w.heap.size := by
 rcases h with h | h
 ·exact h.lt
 ·exact h.lt
def Others (b : Nat) (w w' : World) : Prop := Lib.OthersKept (Tryz.lays156_ren.t 5) (some b) w w'
theorem Others.at_ {b Q : Nat} {w w' : World} (h : Others b w w') (hne : Q ≠ b) {cs : Array Value} {t : TypeId} {fz : Nat × Nat} (ht : t ≠ Tryz.lays156_ren.t 5) (hq : w.heap[Q]? = some (Obj.cells cs t fz)) : w'.heap[Q]? = some (Obj.cells cs t fz) :=
 h Q _ hq (fun e => hne (Option.some.inj e)) (fun _ _ e => ht (by injection e))
theorem bwrite_any (B b : Nat) (l : List UInt8) (s : List UInt8) (w : World) (h : Bld B b l w) (hl : l.length + s.length ≤ 140737488355328) (hB : B ≤ w.heap.size) :
  Calls Tryz.prog 135 #[.pointer (some ⟨b, 0, none⟩), .string (mkB s)] w fun e w' => e = .returned (.tuple #[.int .i64 (mkB s).size, .nilIface]) ∧ Bld B b (l ++ s) w' ∧ Below B w w' ∧ Others b w w' :=
 (Any.Builder_WriteString_k { Tryz.lays156 with } Tryz.Builder_Extra_156 B b (Lib.byteCells l) (mkB s) w h (by rw [Lib.byteCells_length, mkB_sz]; exact hl) hB).mono fun e w' ⟨he, h1, h2, h3⟩ => ⟨he, .inr (by rw [Lib.byteCells_append]; rw [Lib.strCells_eq, mkB_list] at h1; exact h1), h2, h3⟩
theorem bstring_any (B b : Nat) (l : List UInt8) (w : World) (h : Bld B b l w) (hB : B ≤ w.heap.size) :
  Calls Tryz.prog 137 #[.pointer (some ⟨b, 0, none⟩)] w fun e w' => e = .returned (.string (mkB l)) ∧ Below B w w' :=
 (Any.Builder_String_any_k { Tryz.lays156 with } Tryz.Builder_Extra_156 B b l w h hB).mono fun _ _ ⟨he, _, h2, _⟩ => ⟨he, h2⟩
set_option maxRecDepth 100000 in
theorem blen_any (B b : Nat) (l : List UInt8) (w : World) (h : Bld B b l w) :
  Calls Tryz.prog 136 #[.pointer (some ⟨b, 0, none⟩)] w fun e w' => e = .returned (.int .i64 l.length) ∧ w = w' := by
 obtain ⟨p, hB, v, hbk, hown, hne⟩ : ∃ p, Lib.BuilderAtF (Tryz.lays156_ren.t 72) (Tryz.lays156_ren.t 5) B b p (Lib.byteCells l) w := by
  rcases h with h | h
  ·exact ⟨_, h⟩
  ·exact ⟨_, h⟩
 obtain ⟨ao, cap, rfl⟩ : ∃ ao cap, v = .slice ao l.length cap := by
  rcases hown.2 with ⟨hv, h0⟩ | ⟨g, cap, cur, fz, hv, _⟩
  ·exact ⟨none, 0, by rw [hv]; rw [Lib.byteCells_length] at h0; rw [h0]⟩
  ·exact ⟨_, _, by rw [hv, Lib.byteCells_length]⟩
 have c1 : w.cell? ⟨b, 1, none⟩ = some (.slice ao l.length cap) := by rw [Lib.cell_of_heap hbk]; rfl
 clear hbk hown hne hB
 go_enter Tryz.func136, Tryz.ntmps136
 go_wp2
 go_ret
 exact ⟨rfl, rfl⟩
def exV (x : List UInt8 × Bool) : Value := .agg #[.string (mkB x.1), .bool x.2]
theorem zeroX (w : World) : (zeroValue 93).run Tryz.prog w = .ok (exV ([], false)) w := by kernel_rfl
structure ExW (w wr : World) (o : Obj) (out : List UInt8) : Prop where
 below : Below (w.heap.size + 1) (w.alloc o) wr
 bld : Bld (w.heap.size + 1) (w.heap.size + 1) out wr
theorem ExW.all {w wr : World} {o : Obj} {out : List UInt8} (h : ExW w wr o out) : Below w.heap.size w wr := (below_one w o).trans (h.below.mono (Nat.le_succ _))
theorem ExW.size {w wr : World} {o : Obj} {out : List UInt8} (h : ExW w wr o out) : w.heap.size + 1 ≤ wr.heap.size := by
 have := h.below.size
 rw [World.size_alloc] at this
 exact this
theorem ExW.after {w wr w' : World} {o : Obj} {out : List UInt8} (h : ExW w wr o out) (hb : Below wr.heap.size wr w') : ExW w w' o out := ⟨h.below.trans (hb.mono h.size), h.bld.below hb⟩
theorem ExW.write {w wr w' : World} {o : Obj} {out out' : List UInt8} (h : ExW w wr o out) (hb : Below (w.heap.size + 1) wr w') (h2 : Bld (w.heap.size + 1) (w.heap.size + 1) out' w') : ExW w w' o out' := ⟨h.below.trans hb, h2⟩
theorem ExW.start (w : World) (o : Obj) : ExW w ((w.alloc o).alloc (Obj.cells #[.pointer none, .slice none 0 0] (Tryz.lays156_ren.t 72))) o [] := by
 have hs : (w.alloc o).heap.size = w.heap.size + 1 := by simp
 refine ⟨(Below.refl _ _).alloc (by rw [hs]; exact Nat.le_refl _) _, .inl ⟨Nat.le_refl _, .slice none 0 0, ?_, World.ownsRowF_nil _ _ _ _, by simp [Value.ownBlock]⟩⟩
 rw [← hs]
 exact heap_alloc_new (w.alloc o) _
theorem resCells {w wr : World} {t : TypeId} (h : Below (w.heap.size + 1) (w.alloc (Obj.cells #[.string ⟨#[]⟩, .bool false] t)) wr) : wr.cell? ⟨w.heap.size, 0, none⟩ = some (.string ⟨#[]⟩) ∧ wr.cell? ⟨w.heap.size, 1, none⟩ = some (.bool false) ∧ wr.frozen? ⟨w.heap.size, 0, none⟩ = false ∧ wr.frozen? ⟨w.heap.size, 1, none⟩ = false := by
 have h1 : wr.heap[w.heap.size]? = some (Obj.cells #[.string ⟨#[]⟩, .bool false] t) := by
  rw [h.block w.heap.size (Nat.lt_succ_self _)]
  exact heap_alloc_new w _
 refine ⟨?_, ?_, ?_, ?_⟩
 ·rw [cell_of_row wr _ _ _ _ _ h1]; rfl
 ·rw [cell_of_row wr _ _ _ _ _ h1]; rfl
 ·simp [World.frozen?, h1]
 ·simp [World.frozen?, h1]
theorem two_set {w w3 : World} {S : Nat} (a b : Value) (hb : Below w.heap.size w w3) (hS : w.heap.size ≤ S) (h0 : ∃ u, w3.cell? ⟨S, 0, none⟩ = some u) (h1 : ∃ u, w3.cell? ⟨S, 1, none⟩ = some u) :
  Below w.heap.size w ((w3.setCell ⟨S, 0, none⟩ a).setCell ⟨S, 1, none⟩ b) ∧ ((w3.setCell ⟨S, 0, none⟩ a).setCell ⟨S, 1, none⟩ b).cell? ⟨S, 0, none⟩ = some a ∧ ((w3.setCell ⟨S, 0, none⟩ a).setCell ⟨S, 1, none⟩ b).cell? ⟨S, 1, none⟩ = some b := by
 obtain ⟨u0, h0⟩ := h0
 obtain ⟨u1, h1⟩ := h1
 refine ⟨(hb.setCell (p := ⟨S, 0, none⟩) hS a).setCell (p := ⟨S, 1, none⟩) hS b, ?_, ?_⟩
 ·rw [World.cell?_setCell_other _ _ _ _ (by simp)]
  exact World.cell?_setCell_same _ _ _ h0
 ·exact World.cell?_setCell_same _ _ _ (by rw [World.cell?_setCell_other _ _ _ _ (by simp)]; exact h1)
set_option maxHeartbeats 3200000 in
set_option maxRecDepth 100000 in
theorem rexp_any (K : List UInt8 → List UInt8 × Bool) (s0 : ByteArray) (l : List PcB) (hp : piecesB s0.data.toList = some l) (M n : Nat) (f : List UInt8 → Option Value) (w : World) (h : VMap w M n f) (hf : ∀ k, (f k).getD (exV ([], false)) = exV (K k)) (hK : K [] = ([], false)) (hz : ∀ k, (K k).1.length ≤ 4294967280)
  (hs : s0.size ≤ 4294967280) (hm : MaxI w) (hT : Tab w) :
  Calls Tryz.prog 109 #[.string s0, .map (some M)] w fun e w' => e = .returned (exV (resK K l)) ∧ Below w.heap.size w w' := by
 obtain ⟨R, hR⟩ : ∃ R, resK K l = R := ⟨_, rfl⟩
 have HI : Hid (ExInv K s0.data.toList [] R) := Lib.hid (by rw [← hR]; exact ExInv.start hp)
 obtain ⟨N, hN⟩ : ∃ N, s0.size = N := ⟨_, rfl⟩
 have hl0 : s0.data.toList.length = N := by rw [← hN]; simp
 rw [hR, ← mkB_self s0]
 rw [hN] at hs
 clear hp hN hR
 generalize s0.data.toList = l0 at *
 have HCUT : Hid (∀ (s : List UInt8) (W : World), Below w.heap.size w W → s.length ≤ N → Calls Tryz.prog 26 #[.string (mkB s)] W fun e w' => e = .returned (cutA (cutC s)) ∧ Below W.heap.size W w') := Lib.hid fun s W hb hl => by
  have := rfcut_any (mkB s) W (by rw [mkB_sz]; omega) (hm.below hb) (hT.below hb)
  rw [mkB_list] at this; exact this
 have HMP : Hid (∀ W, Below w.heap.size w W → VMap W M n f) := Lib.hid fun W hb => h.below hb
 have HK := Lib.hid hK
 have HF := Lib.hid (And.intro hf hz)
 have H0 : Hid (∀ o, ExW w ((w.alloc o).alloc (Obj.cells #[.pointer none, .slice none 0 0] 186)) o []) := Lib.hid (ExW.start w)
 clear hm hT h hK hf hz
 go_enter Tryz.func109, Tryz.ntmps109
 go_wp2
 go_loopw [0] (fun sv wr => ∃ (s out : List UInt8), sv = .string (mkB s) ∧ s.length ≤ N ∧ Hid (ExInv K s out R) ∧ out.length ≤ 200 ∧ Hid (ExW w wr (Obj.cells #[.string ⟨#[]⟩, .bool false] 93) out)) (fun sv _ => strLen sv)
 case atStart => exact ⟨_, [], rfl, by omega, HI, by simp, H0.out _⟩
 case round =>
  clear HI H0
  obtain ⟨s, out, rfl, hl, HI, hol, HW⟩ := hrel
  by_cases hse : s = []
  ·subst hse
   have HRR : Hid (R = (out, false)) := Lib.hid HI.out.end_
   have e0 : mkB [] = (⟨#[]⟩ : ByteArray) := rfl
   have HST := Lib.hid (bstring_any _ _ out wr HW.out.bld HW.out.size)
   rw [e0]
   clear e0 HI HCUT HMP HK HF
   go_wp2_with fail
   refine HST.out.mono ?_
   rintro e w1 ⟨rfl, hb1⟩
   have hb0 : Below (w.heap.size + 1) (w.alloc (Obj.cells #[.string ⟨#[]⟩, .bool false] 93)) w1 := HW.out.below.trans hb1
   have hbw : Below w.heap.size w w1 := (below_one w _).trans (hb0.mono (Nat.le_succ _))
   obtain ⟨c0, c1, z0, z1⟩ := resCells hb0
   have HT2 := Lib.hid (two_set (.string (mkB out)) (.bool false) hbw (Nat.le_refl _) ⟨_, c0⟩ ⟨_, c1⟩)
   obtain ⟨_, g0, g1⟩ := HT2.out
   clear hb0 hbw hb1 HW HST
   go_wp2
   exact bodyPost_ret (v := exV (out, false)) (by unfold exV; simp [results, Tryz.results109, go_sem, g0, g1]) rfl ⟨by rw [HRR.out], HT2.out.1⟩
  ·have hs1 : s.length ≤ N := by omega
   have HC := Lib.hid (HCUT.out s wr HW.out.all hs1)
   have hcl := cut_less hse
   have hcz := cut_len s
   have q1 : (mkB s).toList.isEmpty = false := by
    rw [Lib.toList_data, mkB_list]
    cases s with
    | nil => exact absurd rfl hse
    | cons c r => rfl
   obtain ⟨⟨p, nm, r, ok⟩, hcc⟩ : ∃ c, cutC s = c := ⟨_, rfl⟩
   rw [hcc] at HC hcl hcz
   unfold cutA at HC
   simp only at HC hcl hcz
   have HCC := Lib.hid hcc
   have HS : Hid (strLen (.string (mkB r)) < strLen (.string (mkB s))) := Lib.hid (by show (mkB r).size < (mkB s).size; rw [mkB_sz, mkB_sz]; exact hcl)
   obtain ⟨hok, hx1, hx2⟩ := HI.out.step HK.out hcc
   subst hok
   have hkz := HF.out.2 nm
   have hfk := HF.out.1 nm
   have hnz : (mkB nm).size ≤ maxLen := by rw [mkB_sz]; unfold maxLen; omega
   rw [← mkB_list nm] at hfk
   have hkn : K (mkB nm).data.toList = K nm := by rw [mkB_list]
   rw [hkn] at hfk
   obtain ⟨⟨kt, kb⟩, hkk⟩ : ∃ k, K nm = k := ⟨_, rfl⟩
   rw [hkk] at hx1 hx2 hfk hkz
   simp only at hx1 hx2 hkz
   unfold exV at hfk
   simp only at hfk
   have HX1 := Lib.hid hx1
   have HX2 := Lib.hid hx2
   have HW1 : Hid (∀ W, ExW w W (Obj.cells #[.string ⟨#[]⟩, .bool false] 93) out → Calls Tryz.prog 135 #[.pointer (some ⟨w.heap.size + 1, 0, none⟩), .string (mkB p)] W fun e w' => e = .returned (.tuple #[.int .i64 (mkB p).size, .nilIface]) ∧ ExW w w' (Obj.cells #[.string ⟨#[]⟩, .bool false] 93) (out ++ p) ∧ Others (w.heap.size + 1) W w') := Lib.hid fun W hW =>
    (bwrite_any _ _ out p W hW.bld (by omega) hW.size).mono fun e w' ⟨he, h1, h2, h3⟩ => ⟨he, hW.write h2 h1, h3⟩
   have HW2 : Hid (∀ W, ExW w W (Obj.cells #[.string ⟨#[]⟩, .bool false] 93) (out ++ p) → Calls Tryz.prog 135 #[.pointer (some ⟨w.heap.size + 1, 0, none⟩), .string (mkB kt)] W fun e w' => e = .returned (.tuple #[.int .i64 (mkB kt).size, .nilIface]) ∧ ExW w w' (Obj.cells #[.string ⟨#[]⟩, .bool false] 93) (out ++ p ++ kt) ∧ Others (w.heap.size + 1) W w') := Lib.hid fun W hW =>
    (bwrite_any _ _ (out ++ p) kt W hW.bld (by rw [List.length_append]; omega) hW.size).mono fun e w' ⟨he, h1, h2, h3⟩ => ⟨he, hW.write h2 h1, h3⟩
   have HLN : Hid (∀ W, ExW w W (Obj.cells #[.string ⟨#[]⟩, .bool false] 93) (out ++ p ++ kt) → Calls Tryz.prog 136 #[.pointer (some ⟨w.heap.size + 1, 0, none⟩)] W fun e w' => e = .returned (.int .i64 (out ++ p ++ kt).length) ∧ W = w') := Lib.hid fun W hW => blen_any _ _ _ W hW.bld
   clear hx1 hx2 hcc hse HI HCUT hkn hkk hkz HK HF
   generalize mkB s = SB at *
   generalize mkB nm = NB at *
   generalize mkB p = PB at *
   generalize mkB kt = KB at *
   go_wp2_with fail
   refine HC.out.mono ?_
   rintro e w1 ⟨rfl, hb1⟩
   have HA1 := Lib.hid (HW.out.after hb1)
   clear hb1 HC HW
   have HMM := Lib.hid (HMP.out _ HA1.out.all)
   go_wp2_with (at_lookup; refine wpList_look_v rfl _ _ 89 93 rfl Tryz.underlying89 _ (zeroX _) rfl _ rfl HMM.out hnz _ hfk ?_)
   have hQ : w1.heap.size ≠ w.heap.size + 1 := fun e => by have := HA1.out.bld.lt; omega
   have HQ : Hid (∀ t W, t ≠ Tryz.lays156_ren.t 5 → Others (w.heap.size + 1) (w1.alloc (Obj.cells #[.string KB, .bool kb] t)) W → W.heap[w1.heap.size]? = some (Obj.cells #[.string KB, .bool kb] t)) := Lib.hid fun t W ht hO => hO.at_ hQ ht (heap_alloc_new w1 _)
   have HQ2 : Hid (∀ t W W', t ≠ Tryz.lays156_ren.t 5 → W.heap[w1.heap.size]? = some (Obj.cells #[.string KB, .bool kb] t) → Others (w.heap.size + 1) W W' → W'.heap[w1.heap.size]? = some (Obj.cells #[.string KB, .bool kb] t)) := Lib.hid fun t W W' ht hW hO => hO.at_ hQ ht hW
   clear hQ
   refine (HW1.out _ (HA1.out.after (below_one w1 _))).mono ?_
   rintro e w2 ⟨rfl, hA2, hO2⟩
   have hq2 := HQ.out _ _ (by decide) hO2
   have HA2 := Lib.hid hA2
   have d0 := cell_of_row w2 w1.heap.size 0 _ _ _ hq2
   have HQB := Lib.hid hq2
   replace d0 : w2.cell? ⟨w1.heap.size, 0, none⟩ = some (.string KB) := d0
   clear hA2 hO2 hq2 HA1 HMM HW1
   go_wp2_with fail
   refine (HW2.out _ HA2.out).mono ?_
   rintro e w3 ⟨rfl, hA3, hO3⟩
   have hq3 := HQ2.out _ _ _ (by decide) HQB.out hO3
   have d1 := cell_of_row w3 w1.heap.size 1 _ _ _ hq3
   replace d1 : w3.cell? ⟨w1.heap.size, 1, none⟩ = some (.bool kb) := d1
   have HA3 := Lib.hid hA3
   clear hA3 hO3 hq3 HA2 d0 HQB HQ HQ2 HW2
   cases kb with
   | true =>
    have HRR : Hid (R = ([], true)) := Lib.hid (HX1.out (.inl rfl))
    have hbw : Below w.heap.size w w3 := HA3.out.all
    obtain ⟨c0, c1, z0, z1⟩ := resCells HA3.out.below
    have HT2 := Lib.hid (two_set (.string ⟨#[]⟩) (.bool true) hbw (Nat.le_refl _) ⟨_, c0⟩ ⟨_, c1⟩)
    obtain ⟨_, g0, g1⟩ := HT2.out
    clear hbw HLN HX1 HX2 HA3 HMP hfk
    go_wp2
    exact bodyPost_ret (v := .agg #[.string ⟨#[]⟩, .bool true]) (by simp [results, Tryz.results109, go_sem, g0, g1]) rfl ⟨by rw [HRR.out]; rfl, HT2.out.1⟩
   | false =>
    have HL3 := Lib.hid (HLN.out w3 HA3.out)
    by_cases hlz : 200 < (out ++ p ++ kt).length
    ·have HRR : Hid (R = ([], true)) := Lib.hid (HX1.out (.inr hlz))
     have hbw : Below w.heap.size w w3 := HA3.out.all
     obtain ⟨c0, c1, z0, z1⟩ := resCells HA3.out.below
     have HT2 := Lib.hid (two_set (.string ⟨#[]⟩) (.bool true) hbw (Nat.le_refl _) ⟨_, c0⟩ ⟨_, c1⟩)
     obtain ⟨_, g0, g1⟩ := HT2.out
     have q3 : (200 : Int) < ((out ++ p ++ kt).length : Int) := by omega
     generalize (out ++ p ++ kt).length = z at *
     clear hbw HLN HX1 HX2 HA3 HMP hfk hlz
     go_wp2_with fail
     refine HL3.out.mono ?_
     rintro e w4 ⟨rfl, rfl⟩
     go_wp2
     exact bodyPost_ret (v := .agg #[.string ⟨#[]⟩, .bool true]) (by simp [results, Tryz.results109, go_sem, g0, g1]) rfl ⟨by rw [HRR.out]; rfl, HT2.out.1⟩
    ·have HR3 : Hid (ExInv K r (out ++ p ++ kt) R) := Lib.hid (HX2.out rfl (by omega))
     have q3 : ¬ (200 : Int) < ((out ++ p ++ kt).length : Int) := by omega
     obtain ⟨z, hzg⟩ : ∃ z, (out ++ p ++ kt).length = z := ⟨_, rfl⟩
     have HZG := Lib.hid hzg
     have hzz : z ≤ 200 := by omega
     rw [hzg] at q3 HL3
     clear HLN HX1 HX2 HMP hfk hlz hzg
     go_wp2_with fail
     refine HL3.out.mono ?_
     rintro e w4 ⟨rfl, rfl⟩
     go_wp2
     go_roundw
     case rel => exact ⟨_, _, rfl, by omega, HR3, by rw [HZG.out]; exact hzz, HA3⟩
     case measure => exact HS.out
end Go.Proofs.YtopghlnoklajkaaGreatDoor

namespace Go.Proofs.YtopghlnoklajkaaGreatDoor

def firstB (n : Nat) (p : Nat → Bool) : Option Nat := (List.range n).find? p
theorem firstB_some {n k : Nat} {p : Nat → Bool} (h : ∀ j, j < k → p j = false) (hk : k < n) (hp : p k = true) : firstB n p = some k := by
 unfold firstB
 rw [List.find?_eq_some_iff_getElem]
 refine ⟨hp, k, by simpa using hk, by simp, fun j hj => ?_⟩
 rw [List.getElem_range, h j hj]; rfl
theorem firstB_none {n : Nat} {p : Nat → Bool} (h : ∀ j, j < n → p j = false) : firstB n p = none := by
 unfold firstB
 rw [List.find?_eq_none]
 intro x hx
 rw [h x (List.mem_range.1 hx)]; simp
theorem firstB_no {n : Nat} {p : Nat → Bool} (h : firstB n p = none) : ∀ j, j < n → p j = false := by
 unfold firstB at h
 rw [List.find?_eq_none] at h
 intro j hj
 have := h j (List.mem_range.2 hj)
 simpa using this
section
variable (P : Nat → List PcB) (pl : List UInt8 → Option Nat)
def kOf (D : Nat → Bool) (Kx : Nat → List UInt8 × Bool) (nm : List UInt8) : List UInt8 × Bool := match pl nm with | some k => if D k = true then Kx k else ([], false) | none => ([], false)
structure Known (D : Nat → Bool) (Kx : Nat → List UInt8 × Bool) : Prop where
 shut : ∀ i, D i = true → ∀ k ∈ scP P pl i, D k = true
 free : ∀ i, D i = true → ¬ Lead (scP P pl) i i
 is : ∀ i, D i = true → Kx i = resK (kOf pl D Kx) (P i)
end
section
variable {P : Nat → List PcB} {pl : List UInt8 → Option Nat} {D : Nat → Bool} {Kx : Nat → List UInt8 × Bool} {n : Nat}
theorem Known.none_ (Kx : Nat → List UInt8 × Bool) : Known P pl (fun _ => false) Kx := ⟨fun i h => (by cases h), fun i h => (by cases h), fun i h => (by cases h)⟩
theorem Known.lead (h : Known P pl D Kx) {i j : Nat} (hl : Lead (scP P pl) i j) : D i = true → D j = true := by
 induction hl with
 | one hk => intro hi; exact h.shut _ hi _ hk
 | more hk _ ih => intro hi; exact ih (h.shut _ hi _ hk)
theorem resK_same {K K' : List UInt8 → List UInt8 × Bool} {l : List PcB} (h : ∀ p ∈ l, p.2 = true → K p.1 = K' p.1) : resK K l = resK K' l := by
 have h1 : longK K l = longK K' l := by
  unfold longK
  rw [Bool.eq_iff_iff]
  simp only [List.any_eq_true, Bool.and_eq_true]
  constructor
  ·rintro ⟨p, hp, h2, h3⟩; exact ⟨p, hp, h2, by rw [← h p hp h2]; exact h3⟩
  ·rintro ⟨p, hp, h2, h3⟩; exact ⟨p, hp, h2, by rw [h p hp h2]; exact h3⟩
 have h2 : flatK K l = flatK K' l := by
  unfold flatK
  refine flatMap_same fun p hp => ?_
  unfold pieceK
  by_cases e : p.2 = true
  ·rw [if_pos e, if_pos e, h p hp e]
  ·rw [if_neg e, if_neg e]
 unfold resK
 rw [h1, h2]
theorem Known.more (h : Known P pl D Kx) {i : Nat} (hi : D i = false) (hs : ∀ k ∈ scP P pl i, D k = true) : Known P pl (fun j => D j || decide (j = i)) (fun j => if j = i then resK (kOf pl D Kx) (P i) else Kx j) := by
 have hm : ∀ j, D j = true → (D j || decide (j = i)) = true := fun j hj => by rw [hj]; rfl
 have hne : ∀ j, D j = true → j ≠ i := fun j hj e => by rw [e, hi] at hj; cases hj
 have hK : ∀ l : List PcB, (∀ k ∈ l.filterMap (fun p => if p.2 = true then pl p.1 else none), D k = true) → resK (kOf pl (fun j => D j || decide (j = i)) (fun j => if j = i then resK (kOf pl D Kx) (P i) else Kx j)) l = resK (kOf pl D Kx) l := fun l hl => by
  refine resK_same fun p hp e => ?_
  unfold kOf
  cases hk : pl p.1 with
  | none => rfl
  | some k =>
   have hd : D k = true := hl k (List.mem_filterMap.2 ⟨p, hp, by rw [if_pos e]; exact hk⟩)
   simp only [hd, Bool.true_or, if_true, if_neg (hne k hd)]
 refine ⟨fun j hj k hk => ?_, fun j hj => ?_, fun j hj => ?_⟩
 ·by_cases e : j = i
  ·subst e; exact hm k (hs k hk)
  ·have : D j = true := by simpa [e] using hj
   exact hm k (h.shut j this k hk)
 ·by_cases e : j = i
  ·subst e
   intro hl
   have : ∀ y, Lead (scP P pl) j y → D y = true := by
    intro y hy
    cases hy with
    | one hk => exact hs _ hk
    | more hk hr => exact h.lead hr (hs _ hk)
   rw [this j hl] at hi; cases hi
  ·have : D j = true := by simpa [e] using hj
   exact h.free j this
 ·by_cases e : j = i
  ·subst e
   simp only [if_true]
   exact (hK (P j) hs).symm
  ·have hd : D j = true := by simpa [e] using hj
   simp only [if_neg e]
   rw [hK (P j) (h.shut j hd)]
   exact h.is j hd
theorem Known.all (_h : Known P pl D Kx) (hn : ∀ i, i < n → ∀ k ∈ scP P pl i, k < n) (hw : ∀ i, i < n → D i = false → ∃ k ∈ scP P pl i, D k = false) (ha : ∀ i, i < n → ¬ Lead (scP P pl) i i) : ∀ i, i < n → D i = true := by
 have hr : ∀ r i, i < n → rank (scP P pl) n i ≤ r → D i = true := by
  intro r
  induction r with
  | zero =>
   intro i hi hr
   cases hd : D i with
   | true => rfl
   | false =>
    obtain ⟨k, hk, _⟩ := hw i hi hd
    have := rank_down hn ha hi hk
    omega
  | succ r ih =>
   intro i hi hr
   cases hd : D i with
   | true => rfl
   | false =>
    obtain ⟨k, hk, hkd⟩ := hw i hi hd
    have h1 := rank_down hn ha hi hk
    rw [ih k (hn i hi k hk) (by omega)] at hkd
    cases hkd
 exact fun i hi => hr _ i hi (Nat.le_refl _)
def cutX (e : List UInt8) : List UInt8 × Bool := if 200 < e.length then ([], true) else (e, false)
theorem cutX_flat (X : Nat → List UInt8) (K : List UInt8 → List UInt8 × Bool) (l : List PcB) (h : ∀ p ∈ l, p.2 = true → ∃ k, pl p.1 = some k ∧ K p.1 = cutX (X k)) : resK K l = cutX (l.flatMap (pieceX pl X)) := by
 have key : ∀ m : List PcB, (∀ p ∈ m, p ∈ l) → (longK K m = true → 200 < (m.flatMap (pieceX pl X)).length) ∧ (longK K m = false → flatK K m = m.flatMap (pieceX pl X)) := by
  intro m
  induction m with
  | nil => intro _; exact ⟨fun e => (by cases e), fun _ => rfl⟩
  | cons p r ih =>
   intro hm
   obtain ⟨i1, i2⟩ := ih fun q hq => hm q (List.mem_cons_of_mem _ hq)
   have hp := hm p (List.mem_cons_self ..)
   rw [List.flatMap_cons, List.length_append]
   have hl : longK K (p :: r) = ((p.2 && (K p.1).2) || longK K r) := rfl
   have hf : flatK K (p :: r) = pieceK K p ++ flatK K r := by unfold flatK; rw [List.flatMap_cons]
   rw [hl, hf]
   by_cases e : p.2 = true
   ·obtain ⟨k, hk, hK⟩ := h p hp e
    have hx : pieceX pl X p = X k := by unfold pieceX; rw [if_pos e, hk]
    have hy : pieceK K p = (cutX (X k)).1 := by unfold pieceK; rw [if_pos e, hK]
    rw [hx, hy, e, hK, Bool.true_and]
    unfold cutX
    by_cases hz : 200 < (X k).length
    ·rw [if_pos hz]
     exact ⟨fun _ => by omega, fun hh => by simp at hh⟩
    ·rw [if_neg hz]
     refine ⟨fun hh => ?_, fun hh => ?_⟩
     ·have := i1 (by simpa using hh); omega
     ·rw [i2 (by simpa using hh)]
   ·have e' : p.2 = false := by simpa using e
    have hx : pieceX pl X p = p.1 := by unfold pieceX; rw [if_neg e]
    have hy : pieceK K p = p.1 := by unfold pieceK; rw [if_neg e]
    rw [hx, hy, e', Bool.false_and, Bool.false_or]
    exact ⟨fun hh => by have := i1 hh; omega, fun hh => by rw [i2 hh]⟩
 obtain ⟨k1, k2⟩ := key l fun _ h => h
 unfold resK
 cases hl : longK K l with
 | true =>
  have := k1 hl
  rw [Bool.true_or, if_pos rfl]
  unfold cutX
  rw [if_pos this]
 | false =>
  rw [k2 hl, Bool.false_or]
  unfold cutX
  by_cases hz : 200 < (l.flatMap (pieceX pl X)).length
  ·rw [if_pos hz, if_pos (decide_eq_true hz)]
  ·rw [if_neg hz, if_neg (by simpa using hz)]
theorem Known.exp (h : Known P pl D Kx) (hn : ∀ i, i < n → ∀ k ∈ scP P pl i, k < n) (hp : ∀ i, i < n → ∀ p ∈ P i, p.2 = true → pl p.1 ≠ none) (ha : ∀ i, i < n → ¬ Lead (scP P pl) i i) (hd : ∀ i, i < n → D i = true) : ∀ i, i < n → Kx i = cutX (expB P pl n i) := by
 have hr : ∀ r i, i < n → rank (scP P pl) n i ≤ r → Kx i = cutX (expB P pl n i) := by
  intro r
  induction r with
  | zero =>
   intro i hi hr
   rw [h.is i (hd i hi), expB_is hn ha hi]
   refine cutX_flat _ _ _ fun p hpp e => ?_
   cases hk : pl p.1 with
   | none => exact absurd hk (hp i hi p hpp e)
   | some k =>
    have := rank_down hn ha hi (mem_scP hpp e hk)
    omega
  | succ r ih =>
   intro i hi hr
   rw [h.is i (hd i hi), expB_is hn ha hi]
   refine cutX_flat _ _ _ fun p hpp e => ?_
   cases hk : pl p.1 with
   | none => exact absurd hk (hp i hi p hpp e)
   | some k =>
    have hks := mem_scP hpp e hk
    have h1 := rank_down hn ha hi hks
    have hkn := hn i hi k hks
    refine ⟨k, rfl, ?_⟩
    unfold kOf
    rw [hk]
    simp only [hd k hkn, if_true]
    exact ih k hkn (by omega)
 exact fun i hi => hr _ i hi (Nat.le_refl _)
end
/-! Looking for what leads to it -/
section
variable (sc : Nat → List Nat)
structure Sought (at_ to : Nat) (U U' : Nat → Bool) : Prop where
 less : ∀ v, U' v = true → U v = true
 gone : U' at_ = false
 shut : ∀ v, U v = true → U' v = false → ∀ k ∈ sc v, k ≠ to ∧ U' k = false
structure SoughtTo (l : List Nat) (at_ to : Nat) (U U' : Nat → Bool) : Prop where
 less : ∀ v, U' v = true → U v = true
 gone : U' at_ = false
 next : ∀ k ∈ l, k ≠ to ∧ U' k = false
 shut : ∀ v, U v = true → U' v = false → v ≠ at_ → ∀ k ∈ sc v, k ≠ to ∧ U' k = false
end
section
variable {sc : Nat → List Nat} {at_ to : Nat} {U U' : Nat → Bool} {l : List Nat}
theorem SoughtTo.start (at_ to : Nat) (U : Nat → Bool) : SoughtTo sc [] at_ to U (fun v => U v && !decide (v = at_)) :=
 ⟨fun v h => (by simp only [Bool.and_eq_true] at h; exact h.1), by simp, fun k h => (by cases h), fun v h h2 hn => (by simp [h, hn] at h2)⟩
theorem SoughtTo.all (h : SoughtTo sc l at_ to U U') (hl : ∀ k ∈ sc at_, k ∈ l) : Sought sc at_ to U U' :=
 ⟨h.less, h.gone, fun v hv hv' k hk => by
  by_cases e : v = at_
  ·subst e; exact h.next k (hl k hk)
  ·exact h.shut v hv hv' e k hk⟩
theorem Sought.none_ (hU : U at_ = false) : Sought sc at_ to U U := ⟨fun _ h => h, hU, fun v h h2 => by rw [h] at h2; cases h2⟩
theorem SoughtTo.more {k : Nat} {U2 : Nat → Bool} (h : SoughtTo sc l at_ to U U') (hk : k ≠ to) (h2 : Sought sc k to U' U2) : SoughtTo sc (l ++ [k]) at_ to U U2 := by
 have hl : ∀ v, U' v = false → U2 v = false := fun v hv => by
  cases hv2 : U2 v with
  | false => rfl
  | true => rw [h2.less v hv2] at hv; cases hv
 refine ⟨fun v hv => h.less v (h2.less v hv), hl _ h.gone, fun j hj => ?_, fun v hv hv2 hne j hj => ?_⟩
 ·rcases List.mem_append.1 hj with hj | hj
  ·exact ⟨(h.next j hj).1, hl _ (h.next j hj).2⟩
  ·rw [List.mem_singleton.1 hj]; exact ⟨hk, h2.gone⟩
 ·cases hv1 : U' v with
  | true => exact h2.shut v hv1 hv2 j hj
  | false =>
   obtain ⟨a, b⟩ := h.shut v hv hv1 hne j hj
   exact ⟨a, hl _ b⟩
end
section
variable {P : Nat → List PcB} {pl : List UInt8 → Option Nat} {D : Nat → Bool} {Kx : Nat → List UInt8 × Bool} {n : Nat}
theorem Known.sought (h : Known P pl D Kx) {i : Nat} {U' : Nat → Bool} (hs : Sought (scP P pl) i i (fun j => !D j) U') (hn : ∀ i, i < n → ∀ k ∈ scP P pl i, k < n) (hi : i < n) : ¬ Lead (scP P pl) i i := by
 intro hl
 cases hd : D i with
 | true => exact h.free i hd hl
 | false =>
  have key : ∀ v j, Lead (scP P pl) v j → v < n → (D v = false ∧ U' v = false) → (D j = true ∨ (j ≠ i ∧ D j = false ∧ U' j = false)) := by
   intro v j hvj
   induction hvj with
   | one hk =>
    rename_i v k
    intro hvn ⟨h1, h2⟩
    obtain ⟨a, b⟩ := hs.shut v (by simp [h1]) h2 k hk
    cases hdk : D k with
    | true => exact .inl rfl
    | false => exact .inr ⟨a, rfl, b⟩
   | more hk hr ih =>
    rename_i v k j
    intro hvn ⟨h1, h2⟩
    obtain ⟨a, b⟩ := hs.shut v (by simp [h1]) h2 k hk
    cases hdk : D k with
    | true => exact .inl (h.lead hr hdk)
    | false => exact ih (hn v hvn k hk) ⟨hdk, b⟩
  rcases key i i hl hi ⟨hd, hs.gone⟩ with h1 | h1
  ·rw [hd] at h1; cases h1
  ·exact h1.1 rfl
end
end Go.Proofs.YtopghlnoklajkaaGreatDoor

namespace Go.Proofs.YtopghlnoklajkaaGreatDoor
open Go.ChangeShapes Go.WideShapes Go.ChangeAt Go.RowKit

/-! The places of names -/
def Dis (ns : List ByteArray) : Prop := ∀ i j (hi : i < ns.length) (hj : j < ns.length), ns[i] = ns[j] → i = j
theorem place_self {ns : List ByteArray} (hd : Dis ns) {i : Nat} (hi : i < ns.length) : placeN ns ns[i] = (i : Int) := by
 rcases placeN_cases ns ns[i] with h | ⟨j, hj, h1, h2⟩
 ·exfalso
  have key : ∀ (l : List ByteArray) (k : Nat) (s : ByteArray), s ∈ l → placeGo s l k ≠ -1 := by
   intro l
   induction l with
   | nil => intro k s hs; cases hs
   | cons a r ih =>
    intro k s hs
    unfold placeGo
    by_cases e : (a.toList == s.toList) = true
    ·rw [if_pos e]; omega
    ·rw [if_neg e]
     rcases List.mem_cons.1 hs with rfl | hs
     ·simp at e
     ·exact ih _ _ hs
  exact key ns 0 _ (List.getElem_mem hi) h
 ·rw [h1]
  have e : ns[j] = ns[i] := by
   have := eq_of_beq h2
   rw [Lib.toList_data, Lib.toList_data] at this
   rw [← mkB_self ns[j], ← mkB_self ns[i], this]
  have := hd j i hj hi e
  rw [this]
theorem pl_self {ns : List ByteArray} (hd : Dis ns) {i : Nat} (hi : i < ns.length) : plO ns ns[i].data.toList = some i := by
 unfold plO
 have e : (⟨ns[i].data.toList.toArray⟩ : ByteArray) = ns[i] := mkB_self ns[i]
 rw [e, place_self hd hi, if_pos (by omega)]
 rfl
theorem pl_is {ns : List ByteArray} {l : List UInt8} {k : Nat} (h : plO ns l = some k) : ∃ hk : k < ns.length, ns[k].data.toList = l := by
 unfold plO at h
 rcases placeN_cases ns ⟨l.toArray⟩ with h1 | ⟨j, hj, h1, h2⟩
 ·rw [h1, if_neg (by omega)] at h; cases h
 ·rw [h1, if_pos (by omega)] at h
  have h := Option.some.inj h
  have hjk : j = k := by omega
  subst hjk
  refine ⟨hj, ?_⟩
  have := eq_of_beq h2
  rw [Lib.toList_data, Lib.toList_data] at this
  exact this
theorem addN_mem (ts : List (List UInt8)) (n x : List UInt8) : x ∈ addN ts n ↔ x ∈ ts ∨ x = n := by
 unfold addN
 split
 ·rename_i h
  have := List.contains_iff_mem.1 h
  constructor
  ·exact .inl
  ·rintro (h | rfl)
   ·exact h
   ·exact this
 ·simp
theorem mem_namesL (l : List PcB) (x : List UInt8) : x ∈ namesL l ↔ ∃ p ∈ l, p.2 = true ∧ p.1 = x := by
 suffices h : ∀ (l : List PcB) (ts : List (List UInt8)), x ∈ l.foldl nameStep ts ↔ x ∈ ts ∨ ∃ p ∈ l, p.2 = true ∧ p.1 = x by
  unfold namesL; rw [h]; simp
 intro l
 induction l with
 | nil => intro ts; simp
 | cons p r ih =>
  intro ts
  rw [List.foldl_cons, ih]
  unfold nameStep
  by_cases e : p.2 = true
  ·rw [if_pos e, addN_mem]
   constructor
   ·rintro ((h | h) | ⟨q, hq, h1, h2⟩)
    ·exact .inl h
    ·exact .inr ⟨p, List.mem_cons_self .., e, h.symm⟩
    ·exact .inr ⟨q, List.mem_cons_of_mem _ hq, h1, h2⟩
   ·rintro (h | ⟨q, hq, h1, h2⟩)
    ·exact .inl (.inl h)
    ·rcases List.mem_cons.1 hq with rfl | hq
     ·exact .inl (.inr h2.symm)
     ·exact .inr ⟨q, hq, h1, h2⟩
  ·rw [if_neg e]
   constructor
   ·rintro (h | ⟨q, hq, h1, h2⟩)
    ·exact .inl h
    ·exact .inr ⟨q, List.mem_cons_of_mem _ hq, h1, h2⟩
   ·rintro (h | ⟨q, hq, h1, h2⟩)
    ·exact .inl h
    ·rcases List.mem_cons.1 hq with rfl | hq
     ·exact absurd h1 e
     ·exact .inr ⟨q, hq, h1, h2⟩
theorem mem_sc {P : Nat → List PcB} {pl : List UInt8 → Option Nat} {i k : Nat} : k ∈ scP P pl i ↔ ∃ nm ∈ namesL (P i), pl nm = some k := by
 unfold scP
 rw [List.mem_filterMap]
 constructor
 ·rintro ⟨p, hp, h⟩
  by_cases e : p.2 = true
  ·rw [if_pos e] at h
   exact ⟨p.1, (mem_namesL _ _).2 ⟨p, hp, e, rfl⟩, h⟩
  ·rw [if_neg e] at h; cases h
 ·rintro ⟨nm, hn, h⟩
  obtain ⟨p, hp, e, rfl⟩ := (mem_namesL _ _).1 hn
  exact ⟨p, hp, by rw [if_pos e]; exact h⟩
/-! Speakers -/
def spV (t : ByteArray) (x : Option Addr) (n c : Nat) : Value := .agg #[.string t, .slice x n c]
theorem zeroS (w : World) : (zeroValue 149).run Tryz.prog w = .ok (spV ⟨#[]⟩ none 0 0) w := by kernel_rfl
structure Spk where
 T : Nat → List UInt8
 P : Nat → List PcB
 X : Nat → Option Addr
 C : Nat → Nat
def Spk.val (S : Spk) (i : Nat) : Value := spV (mkB (S.T i)) (S.X i) (namesL (S.P i)).length (S.C i)
def fU (S : Spk) (ns : List ByteArray) (U : Nat → Bool) (k : List UInt8) : Option Value := match plO ns k with | some i => if U i = true then some (S.val i) else none | none => none
theorem fU_at (S : Spk) {ns : List ByteArray} (hd : Dis ns) {i : Nat} (hi : i < ns.length) (U : Nat → Bool) : fU S ns U ns[i].data.toList = if U i = true then some (S.val i) else none := by
 unfold fU
 rw [pl_self hd hi]
theorem fU_drop (S : Spk) {ns : List ByteArray} (hd : Dis ns) {i : Nat} (hi : i < ns.length) (U : Nat → Bool) (k : List UInt8) : updF (fU S ns U) ns[i].data.toList none k = fU S ns (fun v => U v && !decide (v = i)) k := by
 unfold updF
 by_cases e : k = ns[i].data.toList
 ·rw [if_pos e, e, fU_at S hd hi]; simp
 ·rw [if_neg e]
  unfold fU
  cases hk : plO ns k with
  | none => rfl
  | some j =>
   have hne : j ≠ i := fun h => e (by obtain ⟨_, h2⟩ := pl_is hk; subst h; exact h2.symm)
   simp [hne]
def SpkAt (W : World) (S : Spk) (n : Nat) : Prop := ∀ i, i < n → TxAt W (S.X i) ((namesL (S.P i)).map mkB) ∧ (namesL (S.P i)).length ≤ S.C i
theorem TxAt.map {w w' : World} {x : Option Addr} {ts : List ByteArray} {M n : Nat} {f : List UInt8 → Option Value} (h : TxAt w x ts) (hm : VMap w M n f) (hg : w.grownBy w' (some M)) : TxAt w' x ts := fun k hk => by
 obtain ⟨b, off, e, hl, hc⟩ := h k hk
 have hne : b ≠ M := fun e2 => by
  subst e2
  obtain ⟨D, ⟨es, clock, hb, _⟩, _⟩ := hm
  unfold World.cell? at hc
  rw [hb] at hc
  cases hc
 exact ⟨b, off, e, Nat.lt_of_lt_of_le hl hg.size, (cell_blkT (hg.block b hl (fun e' => hne (Option.some.inj e'))) (off + k)).trans hc⟩
theorem SpkAt.map {W W' : World} {S : Spk} {n M k : Nat} {f : List UInt8 → Option Value} (h : SpkAt W S n) (hm : VMap W M k f) (hg : W.grownBy W' (some M)) : SpkAt W' S n := fun i hi => ⟨(h i hi).1.map hm hg, (h i hi).2⟩
theorem SpkAt.below {W W' : World} {S : Spk} {n : Nat} (h : SpkAt W S n) (hb : Below W.heap.size W W') : SpkAt W' S n := fun i hi => ⟨TxAt.below (h i hi).1 hb, (h i hi).2⟩
end Go.Proofs.YtopghlnoklajkaaGreatDoor
