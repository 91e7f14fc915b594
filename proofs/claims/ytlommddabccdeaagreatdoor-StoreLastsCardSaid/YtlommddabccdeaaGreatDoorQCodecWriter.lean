/-
  CodecWriter.
-/
import Derived.Test.YtlommddabccdeaaGreatDoorQCodecObj
import Derived.Deep.QuietTactic
import Derived.BigQuiet
import Derived.Outline
import Derived.Deep.RegionHeld3
namespace Go.Proofs.YtlommddabccdeaaGreatDoor
open Go.ChangeShapes Go.WideShapes Go.ChangeAt Go.RowKit

def Wtr (w : World) (b : Nat) (F : List Nat) (most : Int) (st : List UInt8 × Int) : Prop :=
 ∃ v, w.heap[b]? = some (.cells #[v, .int .i64 most, errW st.2] 145 (0, 0)) ∧ Held w v st.1 ∧ v.ownBlock ≠ some b ∧ F = b :: v.ownBlock.toList ∧ (st.2 ≠ 0 → st.1 = [])
theorem Wtr.kept {w w' : World} {b : Nat} {F : List Nat} {most : Int} {st : List UInt8 × Int} (h : Wtr w b F most st) (hk : ∀ k ∈ F, w'.heap[k]? = w.heap[k]?) : Wtr w' b F most st := by
 obtain ⟨v, h1, h2, h3, rfl, h5⟩ := h
 exact ⟨v, by rw [hk b (by simp)]; exact h1, h2.kept (fun g hg => hk g (by simp [hg])), h3, rfl, h5⟩
theorem Wtr.lt {w : World} {b : Nat} {F : List Nat} {most : Int} {st : List UInt8 × Int} (h : Wtr w b F most st) : ∀ k ∈ F, k < w.heap.size := by
 obtain ⟨v, h1, h2, h3, rfl, h5⟩ := h
 intro k hk
 simp at hk
 rcases hk with rfl | hk
 ·exact lt_of_heap h1
 ·exact h2.lt hk
def WStep (w : World) (b : Nat) (F : List Nat) (most : Int) (st : List UInt8 × Int) (e : Ending) (w' : World) : Prop :=
 e = .returned (.tuple #[]) ∧ ∃ F', Wtr w' b F' most st ∧ Upd F w w' ∧ ∀ k ∈ F', k ∈ F ∨ w.heap.size ≤ k

theorem newWriter_any (most : Int) (w : World) :
  Calls Tryz.prog 70 #[.int .i64 most] w fun e w' => e = .returned (.pointer (some ⟨w.heap.size, 0, none⟩)) ∧ w' = w.alloc (.cells #[.slice none 0 0, .int .i64 (max most 0), .nilIface] 145) := by
 by_cases h : most < 0
 ·have H := Lib.hid (show max most 0 = 0 by omega)
  go_enter Tryz.func70, Tryz.ntmps70
  go_wp2
  go_ret
  exact ⟨rfl, by rw [H.out]⟩
 ·have H := Lib.hid (show max most 0 = most by omega)
  go_enter Tryz.func70, Tryz.ntmps70
  go_wp2
  go_ret
  exact ⟨rfl, by rw [H.out]⟩
theorem wtr_new (w : World) (most : Int) : Wtr (w.alloc (.cells #[.slice none 0 0, .int .i64 most, .nilIface] 145)) w.heap.size [w.heap.size] most ([], 0) :=
 ⟨.slice none 0 0, heap_alloc_new _ _, World.ownsRow_nil _ _ _ _, by simp [Value.ownBlock], rfl, fun h => absurd rfl h⟩

theorem lay_dead (w : World) (b : Nat) (v most r er : Value) (e : Int) (h : w.heap[b]? = some (.cells #[v, most, errV e] 145 (0, 0))) :
  Calls Tryz.prog 105 #[.pointer (some ⟨b, 0, none⟩), r, er] w fun e w' => e = .returned (.tuple #[]) ∧ w = w' := by
 have c2 := cell_at h (k := 2) rfl
 unfold errV at c2
 clear h
 go_enter Tryz.func105, Tryz.ntmps105
 go_wp2
 refine bodyPost_ret (results_none rfl _ _ _) rfl ?_
 exact ⟨rfl, rfl⟩

theorem lay_err (w : World) (b : Nat) (v most r : Value) (e : Int) (h : w.heap[b]? = some (.cells #[v, most, .nilIface] 145 (0, 0))) :
  Calls Tryz.prog 105 #[.pointer (some ⟨b, 0, none⟩), r, errV e] w fun e' w' => e' = .returned (.tuple #[]) ∧ ∃ n, w' = ((w.drewN n).setCell ⟨b, 0, none⟩ (.slice none 0 0)).setCell ⟨b, 2, none⟩ (errV e) := by
 have c0 := cell_at h (k := 0) rfl
 have c2 := cell_at h (k := 2) rfl
 have f0 := free_at h (k := 0)
 have f2 := free_at h (k := 2)
 unfold errV
 clear h
 go_enter Tryz.func105, Tryz.ntmps105
 go_wp2
 go_quiet (fail)
 go_wp2
 refine bodyPost_ret (results_none rfl _ _ _) rfl ?_
 exact ⟨rfl, _, rfl⟩

theorem lay_long (w : World) (b : Nat) (v : Value) (most : Int) (a : Option Addr) (n c : Nat) (l : List UInt8) (h : w.heap[b]? = some (.cells #[v, .int .i64 most, .nilIface] 145 (0, 0))) (hv : Held w v l)
  (hl : l.length ≤ 70368744177664) (hm : 0 ≤ most) (hm2 : most ≤ 9223372036854775807) (hlong : most - l.length < (n : Int)) :
  Calls Tryz.prog 105 #[.pointer (some ⟨b, 0, none⟩), .slice a n c, .nilIface] w fun e' w' => e' = .returned (.tuple #[]) ∧ ∃ n, w' = ((w.drewN n).setCell ⟨b, 0, none⟩ (.slice none 0 0)).setCell ⟨b, 2, none⟩ (errV 31) := by
 have c0 := cell_at h (k := 0) rfl
 have c1 := cell_at h (k := 1) rfl
 have c2 := cell_at h (k := 2) rfl
 have f0 := free_at h (k := 0)
 have f2 := free_at h (k := 2)
 obtain ⟨a2, c2', rfl⟩ := hv.shape
 have hw : IntKind.i64.wrap (most - (l.length : Int)) = most - l.length := IntWalk.i64_in _ (by omega)
 have hd : decide (most - (l.length : Int) < (n : Int)) = true := decide_eq_true hlong
 unfold errV
 clear h hv hlong
 go_enter Tryz.func105, Tryz.ntmps105
 go_wp2
 go_quiet (fail)
 go_wp2
 refine bodyPost_ret (results_none rfl _ _ _) rfl ?_
 exact ⟨rfl, _, rfl⟩

theorem lay_end {w w2 : World} {b n : Nat} {v v2 : Value} {most : Int} {l : List UInt8} (hb : w.heap[b]? = some (.cells #[v, .int .i64 most, .nilIface] 145 (0, 0))) (hne : v.ownBlock ≠ some b)
  (hb2 : w2.heap[b]? = some (.cells #[v, .int .i64 most, .nilIface] 145 (0, 0))) (hv2 : Held w2 v2 l) (hg : (w.drewN n).grownBy w2 v.ownBlock) (hl : ∀ g, v2.ownBlock = some g → v.ownBlock = some g ∨ (w.drewN n).heap.size ≤ g) :
  ∃ F', Wtr (w2.setCell ⟨b, 0, none⟩ v2) b F' most (l, 0) ∧ Upd (b :: v.ownBlock.toList) w (w2.setCell ⟨b, 0, none⟩ v2) ∧ ∀ k ∈ F', k ∈ b :: v.ownBlock.toList ∨ w.heap.size ≤ k := by
 have hlt := lt_of_heap hb
 have hn2 : v2.ownBlock ≠ some b := fun e => by
  rcases hl b e with h1 | h1
  ·exact hne h1
  ·have : w.heap.size ≤ b := h1
   omega
 refine ⟨b :: v2.ownBlock.toList, ⟨v2, ?_, hv2.kept (fun g hg => Below.heap_setCell _ _ _ _ (fun e => hn2 (by rw [hg, e]))), hn2, rfl, fun h => absurd rfl h⟩, ?_, ?_⟩
 ·rw [heap_set_at hb2]; rfl
 ·exact (((Upd.refl _ w).drewN n).grown hg (fun k hk => Or.inl (by simp [hk]))).setCell (Or.inl (by simp)) _
 ·intro k hk
  simp at hk ⊢
  rcases hk with rfl | hk
  ·exact Or.inl (Or.inl rfl)
  ·rcases hl k hk with h1 | h1
   ·exact Or.inl (Or.inr h1)
   ·exact Or.inr h1

set_option maxHeartbeats 800000 in
theorem lay_fits (w : World) (b : Nat) (v : Value) (most : Int) (r : List UInt8) (rv : Value) (l : List UInt8) (h : w.heap[b]? = some (.cells #[v, .int .i64 most, .nilIface] 145 (0, 0))) (hv : Held w v l) (hne : v.ownBlock ≠ some b)
  (hr : Held w rv r) (hr0 : 0 < r.length) (hl : l.length + r.length ≤ 70368744177664) (hm : 0 ≤ most) (hm2 : most ≤ 9223372036854775807) (hfit : ¬ most - l.length < (r.length : Int)) :
  Calls Tryz.prog 105 #[.pointer (some ⟨b, 0, none⟩), rv, .nilIface] w (WStep w b (b :: v.ownBlock.toList) most (l ++ r, 0)) := by
 have c0 := cell_at h (k := 0) rfl
 have c1 := cell_at h (k := 1) rfl
 have c2 := cell_at h (k := 2) rfl
 have f0 := free_at h (k := 0)
 obtain ⟨g, cap, rfl, hcells⟩ := hr.slice hr0
 obtain ⟨a2, c2', rfl⟩ := hv.shape
 have hw : IntKind.i64.wrap (most - (l.length : Int)) = most - l.length := IntWalk.i64_in _ (by omega)
 have hd : decide (most - (l.length : Int) < (r.length : Int)) = false := decide_eq_false hfit
 have HB := Lib.hid h
 have HV := Lib.hid hv
 have HC := Lib.hid hcells
 have HN := Lib.hid hne
 clear h hv hfit hcells hr hne
 go_enter Tryz.func105, Tryz.ntmps105
 go_wp2
 go_quiet (fail)
 clear hw hd
 go_wp2_with (at_builtin; refine appendH rfl _ _ rfl (HV.out.drewN _) rfl r rfl rfl (fun j u hj => HC.out j u hj) hl ?_; intro v2 w2 hv2 hg2 hl2; have hb2 := grown_at (w := w.drewN _) HB.out hg2 HN.out; have c0' := cell_at hb2 (k := 0) rfl; have f0' := free_at hb2 (k := 0); have HB2 := Lib.hid hb2; clear hb2 HC; obtain ⟨a3, n3, c3, rfl⟩ := hv2.shape')
 go_end0
 exact ⟨rfl, lay_end HB.out HN.out HB2.out hv2 hg2 hl2⟩

theorem errEnd {w : World} {b n : Nat} {v : Value} {most : Int} {e : Int} (he : e ≠ 0) (hb : w.heap[b]? = some (.cells #[v, .int .i64 most, .nilIface] 145 (0, 0))) :
  ∃ F', Wtr (((w.drewN n).setCell ⟨b, 0, none⟩ (.slice none 0 0)).setCell ⟨b, 2, none⟩ (errV e)) b F' most ([], e) ∧ Upd (b :: v.ownBlock.toList) w (((w.drewN n).setCell ⟨b, 0, none⟩ (.slice none 0 0)).setCell ⟨b, 2, none⟩ (errV e)) ∧ ∀ k ∈ F', k ∈ b :: v.ownBlock.toList ∨ w.heap.size ≤ k := by
 refine ⟨[b], ⟨.slice none 0 0, ?_, World.ownsRow_nil _ _ _ _, by simp [Value.ownBlock], rfl, fun _ => rfl⟩, ?_, fun k hk => Or.inl (by simp at hk; simp [hk])⟩
 ·have h1 : ((w.drewN n).setCell ⟨b, 0, none⟩ (.slice none 0 0)).heap[b]? = some (.cells #[.slice none 0 0, .int .i64 most, .nilIface] 145 (0, 0)) := by
   rw [heap_set_at (w := w.drewN n) hb]; rfl
  rw [heap_set_at h1, errW_some he]; rfl
 ·exact (((Upd.refl _ w).drewN n).setCell (Or.inl (by simp)) _).setCell (Or.inl (by simp)) _

theorem lay_any (w : World) (b : Nat) (F : List Nat) (most : Int) (st r : List UInt8 × Int) (rv : Value) (h : Wtr w b F most st) (hm : 0 ≤ most) (hm2 : most ≤ 9223372036854775807) (hl : st.1.length + r.1.length ≤ 70368744177664)
  (hr : r.2 = 0 → Held w rv r.1 ∧ 0 < r.1.length) :
  Calls Tryz.prog 105 #[.pointer (some ⟨b, 0, none⟩), rv, errW r.2] w (WStep w b F most (layL most st r)) := by
 have hW := h
 obtain ⟨v, h1, h2, h3, rfl, h5⟩ := h
 by_cases hd : st.2 = 0
 ·rw [hd, errW_nil] at h1
  by_cases he : r.2 = 0
  ·obtain ⟨hr1, hr2⟩ := hr he
   rw [he, errW_nil]
   by_cases hfit : most - st.1.length < (r.1.length : Int)
   ·obtain ⟨a, c, rfl⟩ := hr1.shape
    refine (lay_long w b v most a _ c st.1 h1 h2 (by omega) hm hm2 hfit).mono ?_
    rintro e w' ⟨rfl, n, rfl⟩
    have e1 : layL most st r = ([], 31) := by rw [layL, if_neg (by simp [hd]), if_neg (by simp [he]), if_pos hfit]
    rw [e1]
    exact ⟨rfl, errEnd (by decide) h1⟩
   ·have e1 : layL most st r = (st.1 ++ r.1, 0) := by rw [layL, if_neg (by simp [hd]), if_neg (by simp [he]), if_neg hfit]
    rw [e1]
    exact lay_fits w b v most r.1 rv st.1 h1 h2 h3 hr1 hr2 hl hm hm2 hfit
  ·rw [errW_some he]
   have e1 : layL most st r = ([], r.2) := by rw [layL, if_neg (by simp [hd]), if_pos he]
   rw [e1]
   refine (lay_err w b v _ rv r.2 h1).mono ?_
   rintro e w' ⟨rfl, n, rfl⟩
   exact ⟨rfl, errEnd he h1⟩
 ·have e1 : layL most st r = st := by rw [layL, if_pos hd]
  rw [e1]
  rw [errW_some hd] at h1
  refine (lay_dead w b v _ rv _ _ h1).mono ?_
  rintro e w' ⟨rfl, rfl⟩
  exact ⟨rfl, _, hW, Upd.refl _ _, fun k hk => Or.inl hk⟩

theorem WStep.after {w w1 : World} {b : Nat} {F : List Nat} {most : Int} {st : List UInt8 × Int} {e : Ending} {w' : World} (h : WStep w1 b F most st e w') (hb : Below w.heap.size w w1) : WStep w b F most st e w' := by
 obtain ⟨rfl, F', h1, h2, h3⟩ := h
 refine ⟨rfl, F', h1, (Upd.of_below hb).trans h2 (fun x hx => Or.inl hx), fun k hk => ?_⟩
 rcases h3 k hk with h4 | h4
 ·exact Or.inl h4
 ·exact Or.inr (Nat.le_trans hb.size h4)

set_option maxRecDepth 100000 in
theorem num_any (w : World) (b : Nat) (F : List Nat) (most : Int) (st : List UInt8 × Int) (n : Int) (h : Wtr w b F most st) (hm : 0 ≤ most) (hm2 : most ≤ 9223372036854775807) (hl : st.1.length + 9 ≤ 70368744177664) (hn : n < 9223372036854775808) :
  Calls Tryz.prog 71 #[.pointer (some ⟨b, 0, none⟩), .int .i64 n] w (WStep w b F most (layL most st (numRow n))) := by
 have hlen := numRow_len n
 by_cases hr : n < 0 ∨ 4611686018427387904 < n
 ·have e1 : numRow n = ([], 30) := by rw [numRow, if_pos hr]
  have HL := Lib.hid (lay_any w b F most st ([], 30) (.slice none 0 0) h hm hm2 (by simp; omega) (fun h => absurd h (by decide)))
  rw [errW_some (by decide : (30 : Int) ≠ 0)] at HL
  rw [e1]
  have HR := Lib.hid hr
  have HN := Lib.hid hn
  clear hr hn hlen e1 h hm hm2 hl
  go_enter Tryz.func71, Tryz.ntmps71
  go_wp2_with (first
   | (go_at_call 104; refine (rowOf_int_no n _ HR.out HN.out).mono ?_; rintro e w' ⟨rfl, rfl⟩)
   | (go_at_call 105; refine HL.out.mono ?_; rintro e w' ⟨rfl, hq⟩))
  go_end0
  exact ⟨rfl, hq⟩
 ·obtain ⟨m, rfl⟩ : ∃ m : Nat, n = m := ⟨n.toNat, by omega⟩
  have e1 : numRow m = (rowL m, 0) := by rw [numRow, if_neg hr]; simp
  have hle : m ≤ 4611686018427387904 := by omega
  rw [e1] at hlen ⊢
  have HW := Lib.hid h
  have HM := Lib.hid hle
  clear hr hn e1 h hle
  go_enter Tryz.func71, Tryz.ntmps71
  go_wp2_with (go_at_call 104; refine (rowOf_int m _ HM.out).mono ?_; rintro e w1 ⟨rv, rfl, ho⟩)
  have HL := lay_any w1 b F most st (rowL m, 0) rv (HW.out.kept (fun k hk => ho.below.block k (HW.out.lt k hk))) hm hm2 (by simp only; omega) (fun _ => ⟨ho.held, rowL_pos m⟩)
  rw [errW_nil] at HL
  refine HL.mono ?_
  rintro e w' hs
  obtain ⟨rfl, hq⟩ := hs.after ho.below
  clear HL
  go_wp2
  go_end0
  exact ⟨rfl, hq⟩

set_option maxRecDepth 100000 in
theorem text_any (w : World) (b : Nat) (F : List Nat) (most : Int) (st : List UInt8 × Int) (s : ByteArray) (h : Wtr w b F most st) (hm : 0 ≤ most) (hm2 : most ≤ 9223372036854775807) (hl : st.1.length + 65538 ≤ 70368744177664) :
  Calls Tryz.prog 72 #[.pointer (some ⟨b, 0, none⟩), .string s] w (WStep w b F most (layL most st (textRow s.data.toList))) := by
 have hlen := (textRow_len s.data.toList).1
 have hsz : s.data.toList.length = s.size := by simp
 by_cases hr : 65535 < s.size
 ·have e1 : textRow s.data.toList = ([], 31) := by rw [textRow, if_pos (by omega)]
  have HL := Lib.hid (lay_any w b F most st ([], 31) (.slice none 0 0) h hm hm2 (by simp; omega) (fun h => absurd h (by decide)))
  rw [errW_some (by decide : (31 : Int) ≠ 0)] at HL
  rw [e1]
  clear hlen e1 h hm hm2 hl hsz
  go_enter Tryz.func72, Tryz.ntmps72
  go_wp2_with (first
   | (go_at_call 106; refine (rowOfText_no s _ hr).mono ?_; rintro e w' ⟨rfl, rfl⟩)
   | (go_at_call 105; refine HL.out.mono ?_; rintro e w' ⟨rfl, hq⟩))
  go_end0
  exact ⟨rfl, hq⟩
 ·have e1 : textRow s.data.toList = (rowL s.size ++ s.data.toList, 0) := by rw [textRow, if_neg (by omega), hsz]
  have hp := rowL_pos s.size
  rw [e1] at hlen ⊢
  have HW := Lib.hid h
  have hr' : s.size ≤ 65535 := by omega
  clear e1 h hsz hr
  go_enter Tryz.func72, Tryz.ntmps72
  go_wp2_with (go_at_call 106; refine (rowOfText_any s _ hr').mono ?_; rintro e w1 ⟨rv, rfl, ho⟩)
  have HL := lay_any w1 b F most st (rowL s.size ++ s.data.toList, 0) rv (HW.out.kept (fun k hk => ho.below.block k (HW.out.lt k hk))) hm hm2 (by simp only at hlen ⊢; omega) (fun _ => ⟨ho.held, by simp only [List.length_append]; omega⟩)
  rw [errW_nil] at HL
  refine HL.mono ?_
  rintro e w' hs
  obtain ⟨rfl, hq⟩ := hs.after ho.below
  clear HL
  go_wp2
  go_end0
  exact ⟨rfl, hq⟩

theorem below_of_drew {w w' : World} (h : Below w.drew.heap.size w.drew w') : Below w.heap.size w w' := ⟨h.os, h.tape, h.output, h.size, h.block⟩

set_option maxRecDepth 100000 in
set_option maxHeartbeats 1600000 in
theorem done_any (w : World) (b : Nat) (F : List Nat) (most : Int) (st : List UInt8 × Int) (h : Wtr w b F most st) (hh : Hand w) :
  Calls Tryz.prog 74 #[.pointer (some ⟨b, 0, none⟩)] w fun e w' => e = .returned (.tuple #[str st.1, .int .i64 st.2]) ∧ Below w.heap.size w w' := by
 obtain ⟨v, h1, h2, h3, rfl, h5⟩ := h
 obtain ⟨l, er⟩ := st
 simp only at h1 h2 h5 ⊢
 have hst := h2.string
 have hstd := (h2.kept (w' := w.drew) (fun _ _ => rfl)).string
 have hlt := lt_of_heap h1
 have H2 := Lib.hid h2
 have hhd : Hand w.drew := hh
 have HH := Lib.hid hhd
 clear hhd
 by_cases he : er = 0
 ·subst he
  rw [errW_nil] at h1
  have c0 : w.cell? ⟨b, 0, none⟩ = some v := cell_at h1 (k := 0) rfl
  have c2 : w.cell? ⟨b, 2, none⟩ = some .nilIface := cell_at h1 (k := 2) rfl
  have d0 : w.drew.cell? ⟨b, 0, none⟩ = some v := c0
  have d2 : w.drew.cell? ⟨b, 2, none⟩ = some .nilIface := c2
  clear h1 h2 h3 h5 hh
  go_enter Tryz.func74, Tryz.ntmps74
  go_wp2
  go_region_held3 (fun w' => w'.cell? ⟨b, 0, none⟩ = some v ∧ w'.cell? ⟨b, 2, none⟩ = some .nilIface ∧ (convert 63 9 v).run Tryz.prog w' = .ok (str l) w') (first | exact ⟨c0, c2, hst⟩ | exact ⟨d0, d2, hstd⟩ | exact ⟨c0', c2', hs1⟩)
   (first | (go_at_call 107; refine (errnoOf_nil _).mono ?_; rintro e w1 ⟨rfl, hb⟩; have hs1 := (H2.out.kept (w' := w1) (fun g hg => hb.block g (H2.out.lt hg))).string; have c0' := (hb.cell (p := ⟨b, 0, none⟩) hlt).trans c0; have c2' := (hb.cell (p := ⟨b, 2, none⟩) hlt).trans c2))
  go_wp2
  go_ret2
  exact ⟨rfl, below_of_drew hb⟩
 ·rw [errW_some he] at h1
  have c0 : w.cell? ⟨b, 0, none⟩ = some v := cell_at h1 (k := 0) rfl
  have c2 : w.cell? ⟨b, 2, none⟩ = some (errV er) := cell_at h1 (k := 2) rfl
  have d0 : w.drew.cell? ⟨b, 0, none⟩ = some v := c0
  have d2 : w.drew.cell? ⟨b, 2, none⟩ = some (errV er) := c2
  clear h1 h2 h3 h5 hh
  go_enter Tryz.func74, Tryz.ntmps74
  go_wp2
  go_region_held3 (fun w' => w'.cell? ⟨b, 0, none⟩ = some v ∧ w'.cell? ⟨b, 2, none⟩ = some (errV er) ∧ (convert 63 9 v).run Tryz.prog w' = .ok (str l) w') (first | exact ⟨c0, c2, hst⟩ | exact ⟨d0, d2, hstd⟩ | exact ⟨c0', c2', hs1⟩)
   (first | (go_at_call 107; refine (errnoOf_hit er _ HH.out HH.out.pos).mono ?_; rintro e w1 ⟨rfl, hb⟩; have hs1 := (H2.out.kept (w' := w1) (fun g hg => hb.block g (H2.out.lt hg))).string; have c0' := (hb.cell (p := ⟨b, 0, none⟩) hlt).trans c0; have c2' := (hb.cell (p := ⟨b, 2, none⟩) hlt).trans c2))
  go_wp2
  go_ret2
  exact ⟨rfl, below_of_drew hb⟩
end Go.Proofs.YtlommddabccdeaaGreatDoor
