/-
  The walk of package ini's take.
-/
import Derived.Test.YtbpbiakdigjcnaaDoorIniSetting
namespace Go.Proofs.YtbpbiakdigjcnaaDoor
open Go.ChangeShapes Go.WideShapes Go.ChangeAt Go.RowKit

def TakeRes (B : Nat) (w : World) (R M : Nat) (num : Int) (o : Option (List UInt8 × List LineV)) (e : Ending) (w' : World) : Prop :=
  match o with
  | none => e = bad num ∧ Fr B R M w w'
  | some st => e = .returned (.tuple #[]) ∧ Fr B R M w w' ∧ ∃ v', RS B w' R M num st.1 st.2 v'
theorem step_set {num : Nat} {a : List UInt8} {ls : List LineV} {x : List UInt8} (h1 : says x = true) (h2 : x.head? ≠ some 91) : stepB num (a, ls) x = (settingB num a ls x).map fun l => (a, ls ++ [l]) := by
  unfold stepB settingB
  rw [if_neg (by rw [h1]; decide), if_neg h2]
  by_cases h : x.contains 61 = true ∧ givenB ls (a ++ trimR (upTo 61 x)) = false ∧ nameB (a ++ trimR (upTo 61 x)) = true
  · rw [if_pos h, if_pos h, Option.map_map]; rfl
  · rw [if_neg h, if_neg h]; rfl
theorem step_sec {num : Nat} {a : List UInt8} {ls : List LineV} {x : List UInt8} (h1 : says x = true) (h2 : x.head? = some 91) : stepB num (a, ls) x = (secOf (x.drop 1)).map fun b => (b, ls) := by
  unfold stepB
  rw [if_neg (by rw [h1]; decide), if_pos h2]
theorem step_no {num : Nat} {st : List UInt8 × List LineV} {x : List UInt8} (h1 : says x = false) : stepB num st x = some st := by
  unfold stepB
  rw [if_pos h1]

set_option maxHeartbeats 1600000 in
set_option maxRecDepth 100000 in
theorem take_any (B R M num : Nat) (a : List UInt8) (ls : List LineV) (v : Value) (s : ByteArray) (w : World) (h : RS B w R M num a ls v) (hT : Tab w) (hI : MaxI w) (hs : s.size ≤ 8000) (ha : a.length ≤ 10000) (hn : ls.length ≤ 100000) :
    Calls Tryd.prog 38 #[.pointer (some ⟨R, 0, none⟩), .string s] w (TakeRes B w R M num (stepB num (a, ls) s.data.toList)) := by
  have hlen : s.data.toList.length = s.size := by simp
  have hBw : B ≤ w.heap.size := h.base
  have H0 : Hid (TakeRes B w R M num (some (a, ls)) (.returned (.tuple #[])) w) := Lib.hid ⟨rfl, Fr.refl _ _ _ _, v, h⟩
  by_cases he : s = ⟨#[]⟩
  · subst he
    rw [step_no (by rfl)]
    clear h hT hI hlen
    go_enter Tryd.func38, Tryd.ntmps38
    go_wp2
    go_end0
    exact H0.out
  have hne : s.data.toList ≠ [] := fun e => he (by rw [← mkB_self s, e]; rfl)
  have hlt : 0 < s.size := by
    rw [← hlen]
    exact List.length_pos_iff.2 hne
  have d0 : s.toList.isEmpty = false := by
    rw [toList_eq]
    cases h : s.data.toList with
    | nil => exact absurd h hne
    | cons _ _ => rfl
  have hd : s.data.toList = s[0] :: s.data.toList.drop 1 := by
    have := drop_byte s 0 hlt
    rw [List.drop_zero] at this
    exact this
  have hb := byte_le s 0 hlt
  have hem : s.data.toList.isEmpty = false := by rw [← toList_eq]; exact d0
  have hhd : s.data.toList.head? = some s[0] := by rw [hd]; rfl
  have hc : ∀ n : Nat, n < 256 → ((s[0].toNat : Int) = n ↔ s[0] = UInt8.ofNat n) := fun n hn => by
    constructor
    · intro e
      apply UInt8.toNat_inj.1
      have : s[0].toNat = n := by omega
      rw [this]; simp; omega
    · intro e
      rw [e]; simp; omega
  by_cases h59 : (s[0].toNat : Int) = 59
  · have hsy : says s.data.toList = false := by
      unfold says
      rw [hem, hhd, (hc 59 (by decide)).1 h59]; rfl
    have d1 : ((s[0].toNat : Int) == 59) = true := beq_iff_eq.2 h59
    rw [step_no hsy]
    clear h hT hI hlen hd hem hhd hc hsy
    go_enter Tryd.func38, Tryd.ntmps38
    go_wp2
    go_end0
    exact H0.out
  have d1 : ((s[0].toNat : Int) == 59) = false := beq_eq_false_iff_ne.2 h59
  by_cases h35 : (s[0].toNat : Int) = 35
  · have hsy : says s.data.toList = false := by
      unfold says
      rw [hem, hhd, (hc 35 (by decide)).1 h35]; rfl
    have d2 : ((s[0].toNat : Int) == 35) = true := beq_iff_eq.2 h35
    rw [step_no hsy]
    clear h hT hI hlen hd hem hhd hc hsy
    go_enter Tryd.func38, Tryd.ntmps38
    go_wp2
    go_end0
    exact H0.out
  have d2 : ((s[0].toNat : Int) == 35) = false := beq_eq_false_iff_ne.2 h35
  have hsy : says s.data.toList = true := by
    unfold says
    rw [hem, hhd]
    have e1 : (some s[0] == some (59 : UInt8)) = false := beq_eq_false_iff_ne.2 (fun e => h59 ((hc 59 (by decide)).2 (Option.some.inj e)))
    have e2 : (some s[0] == some (35 : UInt8)) = false := beq_eq_false_iff_ne.2 (fun e => h35 ((hc 35 (by decide)).2 (Option.some.inj e)))
    rw [e1, e2]; rfl
  by_cases h91 : (s[0].toNat : Int) = 91
  · have d3 : ((s[0].toNat : Int) == 91) = true := beq_iff_eq.2 h91
    have hx1 : s.extract 1 s.size = mkB (s.data.toList.drop 1) := Lib.extract_to_end s 1 |> fun e => by
      rw [← mkB_self (s.extract 1 s.size)]
      congr 1
    rw [step_sec hsy (by rw [hhd, (hc 91 (by decide)).1 h91]; rfl)]
    have HSEC := Lib.hid (takeSection_any R M num a v (mkB (s.data.toList.drop 1)) w h.rd hT hI (by rw [len_mkB, List.length_drop]; omega))
    rw [mkB_data] at HSEC
    have HH := Lib.hid h
    have HX := Lib.hid hx1
    obtain ⟨x1, hx1e⟩ : ∃ x1, s.extract 1 s.size = x1 := ⟨_, rfl⟩
    rw [hx1e] at HX
    rw [← HX.out] at HSEC
    have HBW := Lib.hid hBw
    generalize secOf (s.data.toList.drop 1) = so at *
    clear h hT hI hlen hd hem hhd hc hsy h59 h35 h91 hx1 hBw
    go_enter Tryd.func38, Tryd.ntmps38
    go_wp2_with fail
    refine HSEC.out.mono ?_
    cases so with
    | none =>
      rintro e w1 ⟨rfl, hb1⟩
      exact ⟨by first | rfl | trivial, by first | rfl | trivial, fr_of (hb1.mono HBW.out)⟩
    | some b =>
      rintro e w1 ⟨rfl, hr1, hb1⟩
      have HE : Hid (TakeRes B w R M num (some (b, ls)) (.returned (.tuple #[])) w1) := Lib.hid ⟨rfl, fr_but hb1 HBW.out, v, HH.out.ahead hb1 hr1⟩
      clear hr1 hb1
      go_wp2
      go_end0
      exact HE.out
  · have d3 : ((s[0].toNat : Int) == 91) = false := beq_eq_false_iff_ne.2 h91
    rw [step_set hsy (by rw [hhd]; intro e; exact h91 ((hc 91 (by decide)).2 (Option.some.inj e)))]
    have HSET := Lib.hid (takeSetting_any B R M num a ls v s w h hT hI hs ha hn)
    generalize settingB num a ls s.data.toList = so at *
    clear h hT hI hlen hd hem hhd hc hsy h59 h35 h91 hBw
    go_enter Tryd.func38, Tryd.ntmps38
    go_wp2_with fail
    refine HSET.out.mono ?_
    cases so with
    | none =>
      rintro e w1 ⟨rfl, hb1⟩
      exact ⟨by first | rfl | trivial, by first | rfl | trivial, hb1⟩
    | some l =>
      rintro e w1 ⟨rfl, hb1, v', hr1⟩
      have HE : Hid (TakeRes B w R M num (some (a, ls ++ [l])) (.returned (.tuple #[])) w1) := Lib.hid ⟨rfl, hb1, v', hr1⟩
      clear hr1 hb1
      go_wp2
      go_end0
      exact HE.out
end Go.Proofs.YtbpbiakdigjcnaaDoor
