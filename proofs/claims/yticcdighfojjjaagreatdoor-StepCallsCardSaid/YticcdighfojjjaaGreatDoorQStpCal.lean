/-
  StpFun, StpCal.
-/
import Derived.Test.YticcdighfojjjaaGreatDoorQStpDbl
import Derived.Test.YticcdighfojjjaaGreatDoorQPrKit
import Derived.Shelf.Strings.SlTrimAscii
namespace Go.Proofs.YticcdighfojjjaaGreatDoor
open Go.ChangeShapes Go.WideShapes Go.ChangeAt Go.RowKit Go.Sort

/-! trim -/
def rtB (l : List UInt8) : List UInt8 := (l.reverse.dropWhile blankC).reverse
theorem rt_cons (c : UInt8) (r : List UInt8) : rtB (c :: r) = if (rtB r).isEmpty = true then (if blankC c then [] else [c]) else c :: rtB r := by
  unfold rtB
  rw [List.reverse_cons, List.dropWhile_append, List.isEmpty_reverse]
  split
  · cases h : blankC c <;> simp [h]
  · rw [List.reverse_append]; rfl
theorem rt_nil {l : List UInt8} (h : (rtB l).isEmpty = true) : (l.dropWhile blankC) = [] := by
  induction l with
  | nil => rfl
  | cons c r ih =>
    rw [rt_cons] at h
    split at h
    · rename_i h1
      split at h
      · rename_i h2
        rw [dw_cons_yes h2]; exact ih h1
      · cases h
    · cases h
theorem rt_comm : ∀ l : List UInt8, (rtB l).dropWhile blankC = rtB (l.dropWhile blankC)
  | [] => rfl
  | c :: r => by
    have ih := rt_comm r
    cases hc : blankC c with
    | true =>
      rw [dw_cons_yes hc, ← ih, rt_cons]
      by_cases h : (rtB r).isEmpty = true
      · rw [if_pos h, hc, ih, rt_nil h]; rfl
      · rw [if_neg h, dw_cons_yes hc]
    | false =>
      rw [dw_cons_no hc, rt_cons]
      by_cases h : (rtB r).isEmpty = true
      · rw [if_pos h, hc]
        rw [if_neg (by simp), dw_cons_no hc]
      · rw [if_neg h, dw_cons_no hc]
theorem blank_set (c : UInt8) : ([32, 9] : List UInt8).contains c = blankC c := by
  unfold blankC
  have : ∀ c : UInt8, (([32, 9] : List UInt8).contains c = true) ↔ ((c.toNat : Int) = 32 ∨ (c.toNat : Int) = 9) := fun c => by
    simp only [List.contains_cons, List.contains_nil, Bool.or_false, Bool.or_eq_true, beq_iff_eq]
    constructor
    · rintro (rfl | rfl) <;> decide
    · rintro (h | h)
      · exact .inl (UInt8.toNat_inj.1 (by have : (32 : UInt8).toNat = 32 := rfl
                                          omega))
      · exact .inr (UInt8.toNat_inj.1 (by have : (9 : UInt8).toNat = 9 := rfl
                                          omega))
  rw [Bool.eq_iff_iff, this c, decide_eq_true_iff]
theorem trimS_is (l : List UInt8) : Lib.trimS l [32, 9] = trimL l := by
  have e : (([32, 9] : List UInt8).contains ·) = blankC := funext blank_set
  unfold Lib.trimS Lib.trimLeftS Lib.trimRightS
  rw [e]
  exact rt_comm l
theorem info116S : (Tryz.prog.info? (Tryz.lays160_ren.t 116)).map (fun i => (i.zero, i.size)) = some (some (.agg (Array.replicate 256 (.bool false))), 256) := by kernel_rfl
theorem strim_any (s : ByteArray) (w : World) (hs : s.size ≤ 4294967280) :
    Calls Tryz.prog 77 #[.string s, .string ⟨#[32, 9]⟩] w fun e w' => e = .returned (.string (mkB (trimL s.data.toList))) ∧ Below w.heap.size w w' :=
  (Any.strings_Trim_laid Tryz.lays160 info116S s ⟨#[32, 9]⟩ w (by omega) (by decide) (fun j b h => by
    match j, h with
    | 0, h => cases h; decide
    | 1, h => cases h; decide)).mono fun e w' ⟨he, hb⟩ => ⟨by rw [he, ← trimS_is]; rfl, hb⟩
theorem trimmed_any (s : ByteArray) (w : World) (hs : s.size ≤ 4294967280) :
    Calls Tryz.prog 49 #[.string s] w fun e w' => e = .returned (okF (mkB (trimL s.data.toList), 0)) ∧ Below w.heap.size w w' := by
  have hl : (mkB (trimL s.data.toList)).size ≤ 281474976710656 := by
    rw [mkBlen]
    have := trim_len s.data.toList
    have := data_len s
    omega
  have HT := Lib.hid (strim_any s w hs)
  have HC := Lib.hid (fun W => sclone_any (mkB (trimL s.data.toList)) W hl)
  clear hl
  generalize mkB (trimL s.data.toList) = T at *
  go_enter Tryz.func49, Tryz.ntmps49
  go_wp2_with (first
    | (go_at_call 77; refine HT.out.mono ?_; rintro e w1 ⟨rfl, hb1⟩; have HB := Lib.hid hb1; clear hb1)
    | (go_at_call 61; refine (HC.out _).mono ?_; rintro e w2 ⟨rfl, hb2⟩; have HB2 := Lib.hid hb2; clear hb2))
  go_ret2
  exact ⟨rfl, HB.out.trans (HB2.out.mono HB.out.size)⟩

/-! lower, reverse, upper -/
theorem lowered_any (s : ByteArray) (w : World) (hs : s.size ≤ maxLen) (hT : Tab w) :
    Calls Tryz.prog 47 #[.string s] w fun e w' => e = .returned (okF (mkB (foldL s.data.toList), 0)) ∧ Below w.heap.size w w' := by
  have HF := Lib.hid (fold_any s w hT hs)
  unfold str at HF
  change Hid (Calls _ _ _ _ fun e w' => e = .returned (.string (mkB (foldL s.data.toList))) ∧ _) at HF
  clear hT hs
  generalize mkB (foldL s.data.toList) = T at *
  go_enter Tryz.func47, Tryz.ntmps47
  go_wp2_with (go_at_call 75; refine HF.out.mono ?_; rintro e w1 ⟨rfl, hb1⟩; have HB := Lib.hid hb1; clear hb1)
  go_ret2
  exact ⟨rfl, HB.out⟩
def encB : UInt8 → Value := fun b => Value.int .u8 (b.toNat : Int)
theorem below_putRow {B g n : Nat} {w W : World} {d : Array UInt8} (h : Below B w W) (hg : B ≤ g) : Below B w (putRow encB (Sort.ahead W n) g 0 d) := by
  refine ⟨h.os, h.tape, h.output, ?_, fun k hk => ?_⟩
  · rw [Go.Sort.size_putRow]; exact h.size
  · have : g ≠ k := by omega
    rw [← h.block k hk]
    simp [Go.Sort.putRow, Go.Sort.mapBlock, Go.Sort.ahead, Array.getElem?_modify, this]
theorem holds8 {w : World} {g : Nat} {l : List UInt8} (h : Row8 w g l) : Holds encB w g 0 l.toArray := fun j hj => by
  have hj2 : j < l.length := by simpa using hj
  obtain ⟨h1, h2⟩ := h j hj2
  rw [Nat.zero_add, getElem!_pos l.toArray j hj]
  exact ⟨by simpa [encB] using h1, h2⟩
theorem row8_put {w : World} {g n : Nat} {l m : List UInt8} (h : Row8 w g l) (hl : m.length = l.length) : Row8 (putRow encB (Sort.ahead w n) g 0 m.toArray) g m := fun j hj => by
  have hH := Go.Sort.holds_putRow encB (Sort.ahead w n) g 0 l.toArray m.toArray (Go.Sort.holds_ahead encB w n g 0 l.toArray (holds8 h)) (by simpa using hl)
  obtain ⟨h1, h2⟩ := hH j (by simpa using hj)
  rw [Nat.zero_add, getElem!_pos m.toArray j (by simpa using hj)] at h1
  rw [Nat.zero_add] at h2
  exact ⟨by simpa [encB] using h1, h2⟩
set_option maxHeartbeats 800000 in
theorem reversed_any (s : ByteArray) (w : World) (hs : s.size ≤ maxLen) :
    Calls Tryz.prog 48 #[.string s] w fun e w' => e = .returned (okF (mkB s.data.toList.reverse, 0)) ∧ Below w.heap.size w w' := by
  have hmx : maxLen = 9223372036854775807 := by decide
  obtain ⟨cap, W1, hconv, hrow, hbel, hsz, hcap⟩ := toBytes (P := Tryz.prog) 9 59 5 w s Tryz.underlying9 Tryz.underlying59 Tryz.underlying5
  have hl := data_len s
  have h0 := AnyE.slices_Reverse Tryz.revB encB (fun _ => rfl) w.heap.size 0 cap s.data.toList W1 (holds8 hrow) (by omega)
  rw [hl] at h0
  have HR : Hid (Calls Tryz.prog 76 #[.slice (some ⟨w.heap.size, 0, none⟩) s.size cap] W1 fun e w' => e = .returned (.tuple #[]) ∧ Below w.heap.size w w' ∧ Row8 w' w.heap.size s.data.toList.reverse) := Lib.hid (h0.mono fun e w' ⟨he, n, hw⟩ => ⟨he, by rw [hw]; exact below_putRow hbel (Nat.le_refl _), by rw [hw]; exact row8_put hrow (by simp)⟩)
  obtain ⟨T, hTT⟩ : ∃ T, mkB s.data.toList.reverse = T := ⟨_, rfl⟩
  have HTT := Lib.hid hTT
  rw [hTT]
  clear h0 hrow hbel hsz hcap hs hmx hl hTT
  go_enter Tryz.func48, Tryz.ntmps48
  go_wp2_with (go_at_call 76; refine HR.out.mono ?_; rintro e w2 ⟨rfl, hb, hr⟩; refine Hid.out ?_)
  refine Lib.hid ?_
  have hback := ofBytes (P := Tryz.prog) 9 59 5 w2 w.heap.size cap s.size s.data.toList.reverse (by simp) Tryz.underlying9 Tryz.underlying59 Tryz.underlying5 hr
  have HE : (⟨s.data.toList.reverse.toArray⟩ : ByteArray) = mkB s.data.toList.reverse := rfl
  rw [HE, HTT.out] at hback
  clear HE
  have HB := Lib.hid hb
  clear hb hr hconv HR
  go_wp2
  go_ret2
  exact ⟨rfl, HB.out⟩
theorem cls_small {c : UInt8} : (cls (c.toNat : Int) == 1) = decide (97 ≤ c.toNat ∧ c.toNat ≤ 122) := by
  have : ∀ c : UInt8, (cls (c.toNat : Int) == 1) = decide (97 ≤ c.toNat ∧ c.toNat ≤ 122) := fun c => by
    unfold cls
    have hc : c.toNat < 256 := c.toNat_lt
    rw [Bool.eq_iff_iff, beq_iff_eq, decide_eq_true_iff]
    constructor
    · intro h
      repeat' split at h
      all_goals first | omega | cases h
    · intro h
      repeat' split
      all_goals first | rfl | omega
  exact this c
set_option maxHeartbeats 1600000 in
theorem uppered_any (s : ByteArray) (w : World) (hs : s.size ≤ maxLen) (hT : Tab w) :
    Calls Tryz.prog 50 #[.string s] w fun e w' => e = .returned (okF (mkB (raiseL s.data.toList), 0)) ∧ Below w.heap.size w w' := by
  unfold maxLen at hs
  have hl := data_len s
  obtain ⟨cap, W1, hconv, hrow, hbel, hsz, hcap⟩ := toBytes (P := Tryz.prog) 9 59 5 w s Tryz.underlying9 Tryz.underlying59 Tryz.underlying5
  have HR := Lib.hid hrow
  have HAL : Hid ((raiseL s.data.toList).length = s.data.toList.length) := Lib.hid (raise_len _)
  have HLN := Lib.hid hl
  have HT := Lib.hid hT
  obtain ⟨T, hTT⟩ : ∃ T, mkB (raiseL s.data.toList) = T := ⟨_, rfl⟩
  have HTT := Lib.hid hTT
  rw [hTT]
  clear hrow hl hT hTT
  go_enter Tryz.func50, Tryz.ntmps50
  go_wp2
  clear hconv
  go_loopw [11] (fun i wr => ∃ k : Nat, k ≤ s.size ∧ i = .int .i64 k ∧ Hid (Row8 wr w.heap.size (mixL (raiseL s.data.toList) s.data.toList k)) ∧ Below w.heap.size w wr ∧ w.heap.size < wr.heap.size) (fun i _ => s.size - (intOf i).toNat)
  case atStart => exact ⟨0, by omega, rfl, Lib.hid (by rw [mix_zero]; exact HR.out), hbel, hsz⟩
  case round =>
    clear HR hbel hsz
    obtain ⟨k, hk, rfl, HR, hb, hz⟩ := hrel
    have hT' : Tab wr := HT.out.below hb
    by_cases hlt : k < s.size
    · have hkl : k < s.data.toList.length := by rw [HLN.out]; exact hlt
      obtain ⟨hc1, hc2⟩ := mix_cell HR.out HAL.out hkl
      have hby : (s.data.toList[k]).toNat < 256 := UInt8.toNat_lt _
      have hra := raise_at s.data.toList k hkl
      obtain ⟨c, hcq⟩ : ∃ c, c = s.data.toList[k] := ⟨_, rfl⟩
      rw [← hcq] at hc1 hby hra
      have hk0 : (k : Int) < s.size := by omega
      by_cases hc : 97 ≤ c.toNat ∧ c.toNat ≤ 122
      · have hd : (cls (c.toNat : Int) == 1) = true := by rw [cls_small]; exact decide_eq_true hc
        have hri := raise_in hc
        have HS : Hid (∀ x : Int, x = (c.toNat : Int) - 32 → Row8 (wr.setCell ⟨w.heap.size, k, none⟩ (.int .u8 x)) w.heap.size (mixL (raiseL s.data.toList) s.data.toList (k + 1))) := Lib.hid fun x hx => mix_put HR.out HAL.out hkl x (by rw [hx, hra, hri])
        have a1 : IntKind.u8.wrap ((c.toNat : Int) - 97) = (c.toNat : Int) - 97 := by simp [IntKind.wrap, IntKind.bits, IntKind.signed]; omega
        have a2 : IntKind.u8.wrap ((c.toNat : Int) - 97 + 65) = (c.toNat : Int) - 32 := by simp [IntKind.wrap, IntKind.bits, IntKind.signed]; omega
        clear hra hri HR hcq
        generalize c.toNat = z at *
        clear hc
        go_wp2_with (go_at_call 78; refine (class_any _ _ hT').mono ?_; rintro e w' ⟨rfl, rfl⟩)
        go_roundw
        case rel => exact ⟨k + 1, by omega, by go_num, Lib.hid (HS.out _ (by omega)), hb.setCell (Nat.le_refl _) _, by simpa using hz⟩
        case measure => simp [intOf]; omega
      · have hd : (cls (c.toNat : Int) == 1) = false := by rw [cls_small]; exact decide_eq_false hc
        have HS : Hid (Row8 wr w.heap.size (mixL (raiseL s.data.toList) s.data.toList (k + 1))) := Lib.hid (by
          rw [← mix_same HAL.out hkl (by rw [hra, raise_out hc, hcq])]; exact HR.out)
        clear hra HR hcq
        generalize c.toNat = z at *
        clear hc
        go_wp2_with (go_at_call 78; refine (class_any _ _ hT').mono ?_; rintro e w' ⟨rfl, rfl⟩)
        go_roundw
        case rel => exact ⟨k + 1, by omega, by go_num, HS, hb, hz⟩
        case measure => simp [intOf]; omega
    · have hk0 : ¬ (k : Int) < s.size := by omega
      have hback := ofBytes (P := Tryz.prog) 9 59 5 wr w.heap.size cap s.size (raiseL s.data.toList) (by rw [HAL.out, HLN.out]) Tryz.underlying9 Tryz.underlying59 Tryz.underlying5
        (by have := HR.out; rwa [mix_all HAL.out (by rw [HLN.out]; omega)] at this)
      have HE : (⟨(raiseL s.data.toList).toArray⟩ : ByteArray) = mkB (raiseL s.data.toList) := rfl
      rw [HE, HTT.out] at hback
      clear HR HE HAL
      go_wp2
      go_ret2
      exact ⟨rfl, hb⟩
end Go.Proofs.YticcdighfojjjaaGreatDoor

namespace Go.Proofs.YticcdighfojjjaaGreatDoor
open Go.ChangeShapes Go.WideShapes Go.ChangeAt Go.RowKit

/-- A function's value. -/
def fnV (f : FuncId) : Value := .func (.func f) #[] #[]
def namedV (n : ByteArray) : Value :=
  if eqB n (mkB dblN) then fnV 46 else if eqB n (mkB lowN) then fnV 47 else if eqB n (mkB revN) then fnV 48
  else if eqB n (mkB trmN) then fnV 49 else if eqB n (mkB uppN) then fnV 50 else .nilFunc
theorem named_any (n : ByteArray) (w : World) : Calls Tryz.prog 29 #[.string n] w fun e w' => e = .returned (namedV n) ∧ w = w' := by
  obtain ⟨R, hR⟩ : ∃ R, namedV n = R := ⟨_, rfl⟩
  have HR := Lib.hid hR
  rw [hR]
  clear hR
  have d1 : (mkB dblN).toList = [100, 111, 117, 98, 108, 101] := by rw [Lib.toList_data]; rfl
  have d2 : (mkB lowN).toList = [108, 111, 119, 101, 114] := by rw [Lib.toList_data]; rfl
  have d3 : (mkB revN).toList = [114, 101, 118, 101, 114, 115, 101] := by rw [Lib.toList_data]; rfl
  have d4 : (mkB trmN).toList = [116, 114, 105, 109] := by rw [Lib.toList_data]; rfl
  have d5 : (mkB uppN).toList = [117, 112, 112, 101, 114] := by rw [Lib.toList_data]; rfl
  cases e1 : eqB n (mkB dblN) with
  | true =>
    have f1 : (n.toList == [100, 111, 117, 98, 108, 101]) = true := by rw [← d1]; exact e1
    have hv : R = fnV 46 := by rw [← HR.out]; unfold namedV; rw [e1]; rfl
    rw [hv]
    clear e1 hv HR d1 d2 d3 d4 d5
    unfold fnV
    go_enter Tryz.func29, Tryz.ntmps29
    go_wp2
    go_ret
    exact ⟨rfl, rfl⟩
  | false =>
  have f1 : (n.toList == [100, 111, 117, 98, 108, 101]) = false := by rw [← d1]; exact e1
  cases e2 : eqB n (mkB lowN) with
  | true =>
    have f2 : (n.toList == [108, 111, 119, 101, 114]) = true := by rw [← d2]; exact e2
    have hv : R = fnV 47 := by rw [← HR.out]; unfold namedV; rw [e1, e2]; rfl
    rw [hv]
    clear e1 e2 hv HR d1 d2 d3 d4 d5
    unfold fnV
    go_enter Tryz.func29, Tryz.ntmps29
    go_wp2
    go_ret
    exact ⟨rfl, rfl⟩
  | false =>
  have f2 : (n.toList == [108, 111, 119, 101, 114]) = false := by rw [← d2]; exact e2
  cases e3 : eqB n (mkB revN) with
  | true =>
    have f3 : (n.toList == [114, 101, 118, 101, 114, 115, 101]) = true := by rw [← d3]; exact e3
    have hv : R = fnV 48 := by rw [← HR.out]; unfold namedV; rw [e1, e2, e3]; rfl
    rw [hv]
    clear e1 e2 e3 hv HR d1 d2 d3 d4 d5
    unfold fnV
    go_enter Tryz.func29, Tryz.ntmps29
    go_wp2
    go_ret
    exact ⟨rfl, rfl⟩
  | false =>
  have f3 : (n.toList == [114, 101, 118, 101, 114, 115, 101]) = false := by rw [← d3]; exact e3
  cases e4 : eqB n (mkB trmN) with
  | true =>
    have f4 : (n.toList == [116, 114, 105, 109]) = true := by rw [← d4]; exact e4
    have hv : R = fnV 49 := by rw [← HR.out]; unfold namedV; rw [e1, e2, e3, e4]; rfl
    rw [hv]
    clear e1 e2 e3 e4 hv HR d1 d2 d3 d4 d5
    unfold fnV
    go_enter Tryz.func29, Tryz.ntmps29
    go_wp2
    go_ret
    exact ⟨rfl, rfl⟩
  | false =>
  have f4 : (n.toList == [116, 114, 105, 109]) = false := by rw [← d4]; exact e4
  cases e5 : eqB n (mkB uppN) with
  | true =>
    have f5 : (n.toList == [117, 112, 112, 101, 114]) = true := by rw [← d5]; exact e5
    have hv : R = fnV 50 := by rw [← HR.out]; unfold namedV; rw [e1, e2, e3, e4, e5]; rfl
    rw [hv]
    clear e1 e2 e3 e4 e5 hv HR d1 d2 d3 d4 d5
    unfold fnV
    go_enter Tryz.func29, Tryz.ntmps29
    go_wp2
    go_ret
    exact ⟨rfl, rfl⟩
  | false =>
    have f5 : (n.toList == [117, 112, 112, 101, 114]) = false := by rw [← d5]; exact e5
    have hv : R = .nilFunc := by rw [← HR.out]; unfold namedV; rw [e1, e2, e3, e4, e5]; rfl
    rw [hv]
    clear e1 e2 e3 e4 e5 hv HR d1 d2 d3 d4 d5
    go_enter Tryz.func29, Tryz.ntmps29
    go_wp2
    go_ret
    exact ⟨rfl, rfl⟩
theorem isValue_any (s : ByteArray) (w : World) : Calls Tryz.prog 30 #[.string s] w fun e w' => e = .returned (.bool (decide (s.size ≤ 200))) ∧ w = w' := by
  have q1 : decide ((s.size : Int) ≤ 200) = decide (s.size ≤ 200) := by rw [Bool.eq_iff_iff, decide_eq_true_iff, decide_eq_true_iff]; omega
  go_enter Tryz.func30, Tryz.ntmps30
  go_wp2
  go_ret
  exact ⟨by first | rfl | rw [← q1], rfl⟩
theorem named_none {n : ByteArray} (h : knownB n = false) : namedV n = .nilFunc := by
  unfold knownB funcsB at h
  simp only [List.any_cons, List.any_nil, Bool.or_eq_false_iff, Bool.or_false] at h
  obtain ⟨h1, h2, h3, h4, h5⟩ := h
  have sw : ∀ a b : ByteArray, eqB a b = false → eqB b a = false := fun a b h => by
    refine eqB_ne fun e => ?_
    rw [e, eqB_refl] at h; cases h
  unfold namedV
  rw [sw _ _ h1, sw _ _ h2, sw _ _ h3, sw _ _ h4, sw _ _ h5]
  rfl
theorem named_low : namedV (mkB lowN) = fnV 47 := by
  unfold namedV; rw [eqB_mk (by decide), eqB_refl]; rfl
theorem named_rev : namedV (mkB revN) = fnV 48 := by
  unfold namedV; rw [eqB_mk (by decide), eqB_mk (by decide), eqB_refl]; rfl
theorem named_trm : namedV (mkB trmN) = fnV 49 := by
  unfold namedV; rw [eqB_mk (by decide), eqB_mk (by decide), eqB_mk (by decide), eqB_refl]; rfl
theorem named_upp : namedV (mkB uppN) = fnV 50 := by
  unfold namedV; rw [eqB_mk (by decide), eqB_mk (by decide), eqB_mk (by decide), eqB_mk (by decide), eqB_refl]; rfl
theorem named_dbl : namedV (mkB dblN) = fnV 46 := by
  unfold namedV; rw [eqB_refl]; rfl
theorem eq_nil (w : World) : (binOp .eql 55 .nilFunc .nilFunc).run Tryz.prog w = .ok (.bool true) w := by kernel_rfl
theorem eq_fn (f : FuncId) (w : World) : (binOp .eql 55 (.func (.func f) #[] #[]) .nilFunc).run Tryz.prog w = .ok (.bool false) w := by kernel_rfl
theorem neq_nil (w : World) : (binOp .neq 55 .nilFunc .nilFunc).run Tryz.prog w = .ok (.bool false) w := by kernel_rfl
theorem neq_fn (f : FuncId) (w : World) : (binOp .neq 55 (.func (.func f) #[] #[]) .nilFunc).run Tryz.prog w = .ok (.bool true) w := by kernel_rfl
/-- What a function that is named makes of a value. -/
theorem fn_any {n s : ByteArray} (hk : knownB n = true) (hs : s.size ≤ 200) (w : World) (hS : StdS w) : ∃ f, namedV n = fnV f ∧ (∀ args w, (callFunc f args).run Tryz.prog w = .ok (.enter f args) w) ∧ Calls Tryz.prog f #[.string s] w fun e w' => e = .returned (okF (funcV n s.data.toList)) ∧ Below w.heap.size w w' := by
  have hmx : maxLen = 9223372036854775807 := by decide
  rcases known_cases hk with rfl | rfl | rfl | rfl | rfl
  · exact ⟨_, named_dbl, enters_of Tryz.func46 (by kernel_rfl) rfl, by rw [func_dbl]; exact doubled_any s w (by omega) hS⟩
  · exact ⟨_, named_low, enters_of Tryz.func47 (by kernel_rfl) rfl, by rw [func_low]; exact lowered_any s w (by omega) hS.tab⟩
  · exact ⟨_, named_rev, enters_of Tryz.func48 (by kernel_rfl) rfl, by rw [func_rev]; exact reversed_any s w (by omega)⟩
  · exact ⟨_, named_trm, enters_of Tryz.func49 (by kernel_rfl) rfl, by rw [func_trm]; exact trimmed_any s w (by omega)⟩
  · exact ⟨_, named_upp, enters_of Tryz.func50 (by kernel_rfl) rfl, by rw [func_upp]; exact uppered_any s w (by omega) hS.tab⟩
theorem func_bad {n : ByteArray} {l : List UInt8} (hk : knownB n = true) (h : (funcV n l).2 ≠ 0) : funcV n l = (emB, 162) := by
  rcases known_cases hk with rfl | rfl | rfl | rfl | rfl
  · rw [func_dbl] at h ⊢
    unfold doubleV at h ⊢
    split
    · rename_i h2; rw [if_pos h2] at h; exact absurd rfl h
    · rfl
  · rw [func_low] at h; exact absurd rfl h
  · rw [func_rev] at h; exact absurd rfl h
  · rw [func_trm] at h; exact absurd rfl h
  · rw [func_upp] at h; exact absurd rfl h
set_option maxHeartbeats 800000 in
set_option maxRecDepth 100000 in
theorem pcall_any (n s : ByteArray) (w : World) (_hn : n.size ≤ 2147483647) (_hs : s.size ≤ 2147483647) (hT : StdS w) :
    Calls Tryz.prog 14 #[.string n, .string s] w fun e w' => e = .returned (.tuple #[.string (callV n s).1, .int .i64 (callV n s).2]) ∧ Below w.heap.size w w' := by
  have HN := Lib.hid (named_any n w)
  have HI := Lib.hid (isValue_any s w)
  cases hk : knownB n with
  | false =>
    have hv : callV n s = (emB, 160) := by unfold callV; rw [if_pos hk]
    rw [hv]
    rw [named_none hk] at HN
    clear hv hk hT HI
    have hq := eq_nil
    go_enter Tryz.func14, Tryz.ntmps14
    go_wp2_with (go_at_call 29; refine HN.out.mono ?_; rintro e w1 ⟨rfl, rfl⟩)
    go_ret2
    exact ⟨rfl, Below.refl _ _⟩
  | true =>
    by_cases hbig : 200 < s.size
    · have hv : callV n s = (emB, 162) := by unfold callV; rw [if_neg (by simp [hk]), if_pos hbig]
      rw [hv]
      obtain ⟨f, hf, _, _⟩ := fn_any (s := emB) hk (by decide) w hT
      rw [hf] at HN
      unfold fnV at HN
      rw [decide_eq_false (by omega)] at HI
      clear hv hk hT hf hbig
      have hq := fun W => eq_fn f W
      go_enter Tryz.func14, Tryz.ntmps14
      go_wp2_with (first
        | (go_at_call 29; refine HN.out.mono ?_; rintro e w1 ⟨rfl, rfl⟩)
        | (go_at_call 30; refine HI.out.mono ?_; rintro e w1 ⟨rfl, rfl⟩))
      go_ret2
      exact ⟨rfl, Below.refl _ _⟩
    · obtain ⟨f, hf, he, hC⟩ := fn_any (s := s) hk (by omega) w hT
      rw [call_of hk (by omega)]
      rw [hf] at HN
      unfold fnV at HN
      rw [decide_eq_true (by omega)] at HI
      have HC := Lib.hid hC
      have hb := func_bad (l := s.data.toList) hk
      generalize funcV n s.data.toList = r at *
      obtain ⟨r1, r2⟩ := r
      simp only at hb
      by_cases h0 : r2 = 0
      · subst h0
        unfold okF at HC
        simp only [decide_true] at HC
        clear hk hT hf hbig hC hb
        have hq := fun W => eq_fn f W
        go_enter Tryz.func14, Tryz.ntmps14
        go_wp2_with (first
          | (go_at_call 29; refine HN.out.mono ?_; rintro e w1 ⟨rfl, rfl⟩)
          | (go_at_call 30; refine HI.out.mono ?_; rintro e w1 ⟨rfl, rfl⟩)
          | (go_at_fn f; refine HC.out.mono ?_; rintro e w1 ⟨rfl, hb1⟩; have HB := Lib.hid hb1; clear hb1))
        go_ret2
        exact ⟨rfl, HB.out⟩
      · have e := hb h0
        injection e with e1 e2
        subst e1 e2
        unfold okF at HC
        rw [decide_eq_false (by decide)] at HC
        clear hk hT hf hbig hC hb h0
        have hq := fun W => eq_fn f W
        go_enter Tryz.func14, Tryz.ntmps14
        go_wp2_with (first
          | (go_at_call 29; refine HN.out.mono ?_; rintro e w1 ⟨rfl, rfl⟩)
          | (go_at_call 30; refine HI.out.mono ?_; rintro e w1 ⟨rfl, rfl⟩)
          | (go_at_fn f; refine HC.out.mono ?_; rintro e w1 ⟨rfl, hb1⟩; have HB := Lib.hid hb1; clear hb1))
        go_ret2
        exact ⟨rfl, HB.out⟩
end Go.Proofs.YticcdighfojjjaaGreatDoor
