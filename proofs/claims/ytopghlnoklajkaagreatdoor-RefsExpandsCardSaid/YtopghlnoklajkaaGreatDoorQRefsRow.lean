/-
  CutMath, RefsMath, RefsGraph, RefsExp, RefsRow.
-/
import Derived.Test.YtopghlnoklajkaaGreatDoorQValueMath
import Derived.Lib.CutLaws
import Derived.Lib.IndexMore
import Derived.Test.YtopghlnoklajkaaGreatDoorQRowOps
import Derived.Test.YtopghlnoklajkaaGreatDoorQValueLib
import Derived.Deep.AppendLies
namespace Go.Proofs.YtopghlnoklajkaaGreatDoor

theorem indexD_cons (d c : UInt8) (l : List UInt8) : Lib.index (c :: l) [d] = if c = d then 0 else if Lib.index l [d] = -1 then -1 else Lib.index l [d] + 1 := by
 by_cases h : c = d
 ·subst h; rw [Lib.index]; simp [List.isPrefixOf]
 ·have hp : ([d] : List UInt8).isPrefixOf (c :: l) = false := by simp [List.isPrefixOf, Ne.symm h]
  rw [Lib.index, hp, if_neg h]; simp
def upTo (d : UInt8) (l : List UInt8) : List UInt8 := l.takeWhile (· != d)
def after (d : UInt8) (l : List UInt8) : List UInt8 := (l.dropWhile (· != d)).drop 1
theorem upTo_cons {d c : UInt8} {r : List UInt8} (h : c ≠ d) : upTo d (c :: r) = c :: upTo d r := by
 unfold upTo
 rw [List.takeWhile_cons, if_pos (by simpa using h)]
theorem upTo_sep (d : UInt8) (r : List UInt8) : upTo d (d :: r) = [] := by unfold upTo; simp
theorem after_cons {d c : UInt8} {r : List UInt8} (h : c ≠ d) : after d (c :: r) = after d r := by
 unfold after
 rw [List.dropWhile_cons, if_pos (by simpa using h)]
theorem after_sep (d : UInt8) (r : List UInt8) : after d (d :: r) = r := by unfold after; simp
theorem has_cons {d c : UInt8} {r : List UInt8} (h : c ≠ d) : (c :: r).contains d = r.contains d := by
 have : (d == c) = false := by simpa using fun e => h e.symm
 rw [List.contains_cons, this, Bool.false_or]
theorem index_is (d : UInt8) (l : List UInt8) : Lib.index l [d] = if l.contains d then ((upTo d l).length : Int) else -1 := by
 induction l with
 | nil => rfl
 | cons c r ih =>
  rw [indexD_cons]
  by_cases h : c = d
  ·subst h
   rw [if_pos rfl, upTo_sep, if_pos (by simp)]; rfl
  ·rw [if_neg h, has_cons h, upTo_cons h, ih]
   by_cases hc : r.contains d = true
   ·rw [if_pos hc, if_pos hc, if_neg (by omega), List.length_cons]; omega
   ·rw [if_neg hc, if_neg hc, if_pos rfl]
theorem whole_is (d : UInt8) (l : List UInt8) (h : l.contains d = true) : l = upTo d l ++ d :: after d l := by
 induction l with
 | nil => simp at h
 | cons c r ih =>
  by_cases e : c = d
  ·subst e; rw [upTo_sep, after_sep]; rfl
  ·rw [has_cons e] at h
   rw [upTo_cons e, after_cons e, List.cons_append, ← ih h]
theorem upTo_none {d : UInt8} {l : List UInt8} (h : l.contains d = false) : upTo d l = l := by
 induction l with
 | nil => rfl
 | cons c r ih =>
  have e : c ≠ d := fun e => by subst e; simp at h
  rw [has_cons e] at h
  rw [upTo_cons e, ih h]
theorem cut_is (d : UInt8) (l : List UInt8) : Lib.cut l [d] = if l.contains d then (upTo d l, after d l, true) else (l, [], false) := by
 unfold Lib.cut
 rw [index_is]
 by_cases h : l.contains d = true
 ·rw [if_pos h, if_pos h, if_pos (by omega)]
  have hw := whole_is d l h
  have e : (((upTo d l).length : Int)).toNat = (upTo d l).length := by omega
  rw [e]
  generalize upTo d l = a at *
  generalize after d l = b at *
  subst hw
  simp [List.drop_append]
 ·rw [if_neg h, if_neg h, if_neg (by omega)]
theorem contains_no {d : UInt8} {l : List UInt8} (h : ∀ c ∈ l, c ≠ d) : l.contains d = false := by
 cases hc : l.contains d with
 | false => rfl
 | true => exact absurd rfl (h d (List.contains_iff_mem.1 hc))
theorem upTo_at {d : UInt8} {a b : List UInt8} (h : a.contains d = false) : upTo d (a ++ d :: b) = a ∧ after d (a ++ d :: b) = b ∧ (a ++ d :: b).contains d = true := by
 induction a with
 | nil => exact ⟨upTo_sep _ _, after_sep _ _, by simp⟩
 | cons c r ih =>
  have e : c ≠ d := fun e => by subst e; simp at h
  rw [has_cons e] at h
  obtain ⟨h1, h2, h3⟩ := ih h
  exact ⟨by rw [List.cons_append, upTo_cons e, h1], by rw [List.cons_append, after_cons e, h2], by rw [List.cons_append, has_cons e, h3]⟩
theorem upTo_hit {d : UInt8} {l : List UInt8} {k : Nat} (hk : k < l.length) (h : (l.take k).contains d = false) (he : l[k] = d) : upTo d l = l.take k ∧ after d l = l.drop (k + 1) ∧ l.contains d = true := by
 have hw : l = l.take k ++ d :: l.drop (k + 1) := by
  conv => lhs; rw [← List.take_append_drop k l, List.drop_eq_getElem_cons hk, he]
 obtain ⟨h1, h2, h3⟩ := upTo_at (b := l.drop (k + 1)) h
 rw [← hw] at h1 h2 h3
 exact ⟨h1, h2, h3⟩
theorem no_next {d : UInt8} {l : List UInt8} {k : Nat} (hk : k < l.length) (h : (l.take k).contains d = false) (he : l[k] ≠ d) : (l.take (k + 1)).contains d = false := by
 rw [List.take_succ_eq_append_getElem hk]
 refine contains_no fun c hc => ?_
 rcases List.mem_append.1 hc with hc | hc
 ·intro e; subst e; rw [List.contains_iff_mem.2 hc] at h; cases h
 ·rw [List.mem_singleton.1 hc]; exact he
theorem list_at (s : ByteArray) (k : Nat) (h : k < s.size) : s.data.toList[k]'(by simpa using h) = s[k] := by simp [ByteArray.getElem_eq_getElem_data]
end Go.Proofs.YtopghlnoklajkaaGreatDoor

namespace Go.Proofs.YtopghlnoklajkaaGreatDoor

abbrev PcB := List UInt8 × Bool
def scanP : Nat → List UInt8 → List UInt8 → List PcB → Option (List PcB)
 | 0, _, b, l => some (l ++ [(b, false)])
 | _ + 1, [], b, l => some (l ++ [(b, false)])
 | f + 1, c :: r, b, l =>
  if c = 36 then
   match r with
   | [] => none
   | d :: r' =>
    if d = 36 then scanP f r' (b ++ [36]) l
    else if d = 123 then
     if r'.contains 125 = true ∧ nameB (upTo 125 r') = true then scanP f (after 125 r') [] (l ++ [(b, false), (upTo 125 r', true)]) else none
    else none
  else scanP f r (b ++ [c]) l
theorem after_len (d : UInt8) (l : List UInt8) : (after d l).length ≤ l.length := by
 unfold after
 rw [List.length_drop]
 have := (List.dropWhile_sublist (· != d) (l := l)).length_le
 omega
theorem scanP_more : ∀ (f : Nat) (r b : List UInt8) (l : List PcB), r.length ≤ f → ∀ g, f ≤ g → scanP g r b l = scanP f r b l := by
 intro f
 induction f with
 | zero =>
  intro r b l hr g hg
  have : r = [] := List.eq_nil_of_length_eq_zero (by omega)
  subst this
  cases g <;> rfl
 | succ f ih =>
  intro r b l hr g hg
  obtain ⟨g, rfl⟩ : ∃ g', g = g' + 1 := ⟨g - 1, by omega⟩
  cases r with
  | nil => rfl
  | cons c r =>
   rw [List.length_cons] at hr
   unfold scanP
   by_cases hc : c = 36
   ·rw [if_pos hc, if_pos hc]
    cases r with
    | nil => rfl
    | cons d r' =>
     rw [List.length_cons] at hr
     simp only
     split
     ·exact ih _ _ _ (by omega) _ (by omega)
     ·split
      ·split
       ·exact ih _ _ _ (by have := after_len 125 r'; omega) _ (by omega)
       ·rfl
      ·rfl
   ·rw [if_neg hc, if_neg hc]
    exact ih _ _ _ (by omega) _ (by omega)
def scanB (r b : List UInt8) (l : List PcB) : Option (List PcB) := scanP r.length r b l
theorem scanB_nil (b : List UInt8) (l : List PcB) : scanB [] b l = some (l ++ [(b, false)]) := rfl
theorem scanB_byte {c : UInt8} (h : c ≠ 36) (r b : List UInt8) (l : List PcB) : scanB (c :: r) b l = scanB r (b ++ [c]) l := by
 unfold scanB
 rw [List.length_cons]
 conv => lhs; unfold scanP
 rw [if_neg h]
theorem scanB_end (b : List UInt8) (l : List PcB) : scanB [36] b l = none := rfl
theorem scanB_two (r b : List UInt8) (l : List PcB) : scanB (36 :: 36 :: r) b l = scanB r (b ++ [36]) l := by
 unfold scanB
 rw [List.length_cons, List.length_cons]
 conv => lhs; unfold scanP
 rw [if_pos rfl]
 simp only
 first | rw [if_pos trivial] | rw [if_pos rfl]
 exact scanP_more _ _ _ _ (Nat.le_refl _) _ (by omega)
theorem scanB_bad {d : UInt8} (h1 : d ≠ 36) (h2 : d ≠ 123) (r b : List UInt8) (l : List PcB) : scanB (36 :: d :: r) b l = none := by
 unfold scanB
 rw [List.length_cons]
 conv => lhs; unfold scanP
 rw [if_pos rfl]
 simp only
 rw [if_neg h1, if_neg h2]
theorem scanB_open {r : List UInt8} (h : r.contains 125 = false) (b : List UInt8) (l : List PcB) : scanB (36 :: 123 :: r) b l = none := by
 unfold scanB
 rw [List.length_cons]
 conv => lhs; unfold scanP
 rw [if_pos rfl]
 simp only
 first | rw [if_neg (by decide), if_pos trivial] | rw [if_neg (by decide), if_pos rfl] | rw [if_neg id, if_pos trivial]
 rw [if_neg (by rw [h]; simp)]
theorem scanB_no {r : List UInt8} (h : nameB (upTo 125 r) = false) (b : List UInt8) (l : List PcB) : scanB (36 :: 123 :: r) b l = none := by
 unfold scanB
 rw [List.length_cons]
 conv => lhs; unfold scanP
 rw [if_pos rfl]
 simp only
 first | rw [if_neg (by decide), if_pos trivial] | rw [if_neg (by decide), if_pos rfl] | rw [if_neg id, if_pos trivial]
 rw [if_neg (by rw [h]; simp)]
theorem scanB_ref {r : List UInt8} (h : r.contains 125 = true) (h2 : nameB (upTo 125 r) = true) (b : List UInt8) (l : List PcB) : scanB (36 :: 123 :: r) b l = scanB (after 125 r) [] (l ++ [(b, false), (upTo 125 r, true)]) := by
 unfold scanB
 rw [List.length_cons, List.length_cons]
 conv => lhs; unfold scanP
 rw [if_pos rfl]
 simp only
 first | rw [if_neg (by decide), if_pos trivial] | rw [if_neg (by decide), if_pos rfl] | rw [if_neg id, if_pos trivial]
 rw [if_pos ⟨h, h2⟩]
 exact scanP_more _ _ _ _ (Nat.le_refl _) _ (by have := after_len 125 r; omega)
def piecesB (s : List UInt8) : Option (List PcB) := scanB s [] []
def addN (out : List (List UInt8)) (n : List UInt8) : List (List UInt8) := if out.contains n = true then out else out ++ [n]
def nameStep (out : List (List UInt8)) (p : PcB) : List (List UInt8) := if p.2 = true then addN out p.1 else out
def namesL (l : List PcB) : List (List UInt8) := l.foldl nameStep []
def namesB (s : List UInt8) : List (List UInt8) × Int :=
 match piecesB s with
 | none => ([], 100)
 | some l => (namesL l, 0)
theorem addN_len (out : List (List UInt8)) (n : List UInt8) : (addN out n).length ≤ out.length + 1 := by
 unfold addN
 split
 ·omega
 ·simp
theorem namesL_len (l : List PcB) : (namesL l).length ≤ l.length := by
 suffices h : ∀ out, (l.foldl nameStep out).length ≤ out.length + l.length by simpa [namesL] using h []
 induction l with
 | nil => intro out; simp
 | cons p r ih =>
  intro out
  rw [List.foldl_cons, List.length_cons]
  refine Nat.le_trans (ih _) ?_
  unfold nameStep
  split
  ·have := addN_len out p.1; omega
  ·omega
theorem scanP_len : ∀ (f : Nat) (r b : List UInt8) (l out : List PcB), scanP f r b l = some out → out.length ≤ l.length + r.length + 1 := by
 intro f
 induction f with
 | zero => intro r b l out h; have := Option.some.inj h; rw [← this]; simp
 | succ f ih =>
  intro r b l out h
  cases r with
  | nil => have := Option.some.inj h; rw [← this]; simp
  | cons c r =>
   unfold scanP at h
   rw [List.length_cons]
   split at h
   ·cases r with
    | nil => cases h
    | cons d r' =>
     rw [List.length_cons]
     simp only at h
     split at h
     ·have := ih _ _ _ _ h; omega
     ·split at h
      ·split at h
       ·have h1 := ih _ _ _ _ h
        rw [List.length_append, List.length_cons, List.length_singleton] at h1
        have h2 : (after 125 r').length + 1 ≤ r'.length := by
         rename_i hx
         have hw := congrArg List.length (whole_is 125 r' hx.1)
         rw [List.length_append, List.length_cons] at hw
         omega
        omega
       ·cases h
      ·cases h
   ·have := ih _ _ _ _ h; omega
theorem pieces_len {s : List UInt8} {l : List PcB} (h : piecesB s = some l) : l.length ≤ s.length + 1 := by
 have := scanP_len _ _ _ _ _ h
 simpa using this
end Go.Proofs.YtopghlnoklajkaaGreatDoor

namespace Go.Proofs.YtopghlnoklajkaaGreatDoor

inductive Lead (sc : Nat → List Nat) : Nat → Nat → Prop
  | one {i k : Nat} : k ∈ sc i → Lead sc i k
  | more {i k j : Nat} : k ∈ sc i → Lead sc k j → Lead sc i j
section
variable {sc : Nat → List Nat} {n : Nat}
theorem Lead.trans {i k j : Nat} (h : Lead sc i k) (h2 : Lead sc k j) : Lead sc i j := by
  induction h with
  | one h => exact .more h h2
  | more h _ ih => exact .more h (ih h2)
structure Marked (sc : Nat → List Nat) (at_ : Nat) (V V' : Nat → Prop) : Prop where
  keep : ∀ k, V k → V' k
  only : ∀ k, V' k → V k ∨ Lead sc at_ k
  next : ∀ k ∈ sc at_, V' k
  shut : ∀ k, V' k → ¬ V k → ∀ j ∈ sc k, V' j
structure MarkedTo (l : List Nat) (sc : Nat → List Nat) (at_ : Nat) (V V' : Nat → Prop) : Prop where
  keep : ∀ k, V k → V' k
  only : ∀ k, V' k → V k ∨ Lead sc at_ k
  next : ∀ k ∈ l, V' k
  shut : ∀ k, V' k → ¬ V k → ∀ j ∈ sc k, V' j
theorem MarkedTo.nil_ (at_ : Nat) (V : Nat → Prop) : MarkedTo [] sc at_ V V := ⟨fun _ h => h, fun _ h => .inl h, fun k h => (by cases h), fun k h h2 => absurd h h2⟩
theorem MarkedTo.all {at_ : Nat} {V V' : Nat → Prop} (h : MarkedTo (sc at_) sc at_ V V') : Marked sc at_ V V' := ⟨h.keep, h.only, h.next, h.shut⟩
theorem MarkedTo.met {l : List Nat} {at_ k : Nat} {V V' : Nat → Prop} (h : MarkedTo l sc at_ V V') (hk : V' k) : MarkedTo (l ++ [k]) sc at_ V V' :=
  ⟨h.keep, h.only, fun j hj => by
    rcases List.mem_append.1 hj with hj | hj
    · exact h.next j hj
    · rw [List.mem_singleton.1 hj]; exact hk, h.shut⟩
theorem MarkedTo.new {l : List Nat} {at_ k : Nat} {V V1 V2 : Nat → Prop} (h : MarkedTo l sc at_ V V1) (hk : k ∈ sc at_) (h2 : Marked sc k (fun j => V1 j ∨ j = k) V2) : MarkedTo (l ++ [k]) sc at_ V V2 :=
  ⟨fun j hj => h2.keep j (.inl (h.keep j hj)), fun j hj => by
    rcases h2.only j hj with (h3 | rfl) | h3
    · exact h.only j h3
    · exact .inr (.one hk)
    · exact .inr (.more hk h3), fun j hj => by
    rcases List.mem_append.1 hj with hj | hj
    · exact h2.keep j (.inl (h.next j hj))
    · rw [List.mem_singleton.1 hj]; exact h2.keep k (.inr rfl), fun j hj hv i hi => by
    by_cases h3 : V1 j
    · exact h2.keep i (.inl (h.shut j h3 hv i hi))
    · by_cases h4 : j = k
      · subst h4; exact h2.next i hi
      · exact h2.shut j hj (fun h5 => by rcases h5 with h5 | h5 <;> contradiction) i hi⟩
theorem Marked.just {at_ : Nat} {V' : Nat → Prop} (h : Marked sc at_ (fun _ => False) V') (k : Nat) : V' k ↔ Lead sc at_ k := by
  refine ⟨fun hk => (h.only k hk).resolve_left id, fun hk => ?_⟩
  have hs : ∀ i j, Lead sc i j → (V' i ∨ i = at_) → V' j := by
    intro i j hl
    induction hl with
    | one he => intro hi; rcases hi with hi | rfl
                · exact h.shut _ hi id _ he
                · exact h.next _ he
    | more he _ ih => intro hi; refine ih (.inl ?_); rcases hi with hi | rfl
                      · exact h.shut _ hi id _ he
                      · exact h.next _ he
  exact hs at_ k hk (.inr rfl)
def unm (n : Nat) (V : Nat → Bool) : Nat := ((List.range n).filter fun k => !V k).length
theorem unm_less {V V' : Nat → Bool} (hk : ∀ k, V k = true → V' k = true) : unm n V' ≤ unm n V := by
  unfold unm
  induction n with
  | zero => simp
  | succ n ih =>
    rw [List.range_succ, List.filter_append, List.filter_append, List.length_append, List.length_append]
    have h := hk n
    cases h1 : V n <;> cases h2 : V' n <;> simp_all <;> omega
theorem unm_mark {V : Nat → Bool} {k : Nat} (hk : k < n) (h : V k = false) : unm n (fun j => V j || decide (j = k)) < unm n V := by
  unfold unm
  induction n with
  | zero => omega
  | succ n ih =>
    rw [List.range_succ, List.filter_append, List.filter_append, List.length_append, List.length_append]
    by_cases hn : k = n
    · subst hn
      have h1 : ((List.range k).filter fun j => !(V j || decide (j = k))).length = ((List.range k).filter fun j => !V j).length := by
        congr 1
        apply List.filter_congr
        intro j hj
        have := List.mem_range.1 hj
        have hne : j ≠ k := by omega
        simp [hne]
      rw [h1]
      simp [h]
    · have h1 := ih (by omega)
      have hne : n ≠ k := fun e => hn e.symm
      have h2 : ([n].filter fun j => !(V j || decide (j = k))) = ([n].filter fun j => !V j) := List.filter_congr fun j hj => by rw [List.mem_singleton.1 hj, decide_eq_false hne, Bool.or_false]
      rw [h2]
      omega
noncomputable def rank (sc : Nat → List Nat) (n i : Nat) : Nat := by
  classical
  exact ((List.range n).filter fun k => decide (Lead sc i k)).length
theorem filter_less {α : Type} {p q : α → Bool} {l : List α} (h : ∀ x ∈ l, p x = true → q x = true) {y : α} (hy : y ∈ l) (hq : q y = true) (hp : p y = false) : (l.filter p).length < (l.filter q).length := by
  have hle : ∀ m : List α, (∀ x ∈ m, p x = true → q x = true) → (m.filter p).length ≤ (m.filter q).length := by
    intro m
    induction m with
    | nil => intro _; simp
    | cons x r ih =>
      intro hm
      have h1 := ih fun y hy => hm y (List.mem_cons_of_mem _ hy)
      have h2 := hm x (List.mem_cons_self ..)
      rw [List.filter_cons, List.filter_cons]
      cases hpx : p x <;> cases hqx : q x <;> simp_all <;> omega
  induction l with
  | nil => cases hy
  | cons x r ih =>
    rw [List.filter_cons, List.filter_cons]
    rcases List.mem_cons.1 hy with rfl | hy
    · rw [hp, hq]
      have := hle r fun z hz => h z (List.mem_cons_of_mem _ hz)
      simp; omega
    · have h1 := ih (fun z hz => h z (List.mem_cons_of_mem _ hz)) hy
      have h2 := h x (List.mem_cons_self ..)
      cases hpx : p x <;> cases hqx : q x <;> simp_all <;> omega
theorem rank_down (hn : ∀ i, i < n → ∀ k ∈ sc i, k < n) (ha : ∀ i, i < n → ¬ Lead sc i i) {i k : Nat} (hi : i < n) (hk : k ∈ sc i) : rank sc n k < rank sc n i := by
  classical
  unfold rank
  have hkn := hn i hi k hk
  refine filter_less (y := k) (fun j _ hj => ?_) (List.mem_range.2 hkn) ?_ ?_
  · rw [decide_eq_true_eq] at hj ⊢
    exact .more hk hj
  · rw [decide_eq_true_eq]; exact .one hk
  · rw [decide_eq_false_iff_not]; exact ha k hkn
end
end Go.Proofs.YtopghlnoklajkaaGreatDoor

namespace Go.Proofs.YtopghlnoklajkaaGreatDoor

section
variable (P : Nat → List PcB) (pl : List UInt8 → Option Nat)
def scP (i : Nat) : List Nat := (P i).filterMap fun p => if p.2 = true then pl p.1 else none
def pieceX (X : Nat → List UInt8) (p : PcB) : List UInt8 := if p.2 = true then (match pl p.1 with | some k => X k | none => []) else p.1
def expF : Nat → Nat → List UInt8
 | 0, _ => []
 | f + 1, i => (P i).flatMap (pieceX pl (expF f))
end
section
variable {P : Nat → List PcB} {pl : List UInt8 → Option Nat} {n : Nat}
theorem mem_scP {i k : Nat} {p : PcB} (hp : p ∈ P i) (h : p.2 = true) (hk : pl p.1 = some k) : k ∈ scP P pl i := List.mem_filterMap.2 ⟨p, hp, by rw [if_pos h]; exact hk⟩
theorem flatMap_same {α β : Type} {f g : α → List β} : ∀ {l : List α}, (∀ x ∈ l, f x = g x) → l.flatMap f = l.flatMap g := by
 intro l
 induction l with
 | nil => intro _; rfl
 | cons x r ih => intro h; rw [List.flatMap_cons, List.flatMap_cons, h x (List.mem_cons_self ..), ih fun y hy => h y (List.mem_cons_of_mem _ hy)]
theorem expF_same (hn : ∀ i, i < n → ∀ k ∈ scP P pl i, k < n) (ha : ∀ i, i < n → ¬ Lead (scP P pl) i i) : ∀ (r i f g : Nat), i < n → rank (scP P pl) n i ≤ r → r < f → r < g → expF P pl f i = expF P pl g i := by
 intro r
 induction r with
 | zero =>
  intro i f g hi hr hf hg
  obtain ⟨f, rfl⟩ : ∃ f', f = f' + 1 := ⟨f - 1, by omega⟩
  obtain ⟨g, rfl⟩ : ∃ g', g = g' + 1 := ⟨g - 1, by omega⟩
  refine flatMap_same fun p hp => ?_
  unfold pieceX
  by_cases h : p.2 = true
  ·rw [if_pos h, if_pos h]
   cases hk : pl p.1 with
   | none => rfl
   | some k =>
    have := rank_down hn ha hi (mem_scP hp h hk)
    omega
  ·rw [if_neg h, if_neg h]
 | succ r ih =>
  intro i f g hi hr hf hg
  obtain ⟨f, rfl⟩ : ∃ f', f = f' + 1 := ⟨f - 1, by omega⟩
  obtain ⟨g, rfl⟩ : ∃ g', g = g' + 1 := ⟨g - 1, by omega⟩
  refine flatMap_same fun p hp => ?_
  unfold pieceX
  by_cases h : p.2 = true
  ·rw [if_pos h, if_pos h]
   cases hk : pl p.1 with
   | none => rfl
   | some k =>
    have hd := rank_down hn ha hi (mem_scP hp h hk)
    exact ih k f g (hn i hi k (mem_scP hp h hk)) (by omega) (by omega) (by omega)
  ·rw [if_neg h, if_neg h]
theorem rank_le (sc : Nat → List Nat) (i : Nat) : rank sc n i ≤ n := by
 classical
 unfold rank
 refine Nat.le_trans (List.length_filter_le _ _) ?_
 simp
def expB (P : Nat → List PcB) (pl : List UInt8 → Option Nat) (n i : Nat) : List UInt8 := expF P pl (n + 1) i
theorem expB_is (hn : ∀ i, i < n → ∀ k ∈ scP P pl i, k < n) (ha : ∀ i, i < n → ¬ Lead (scP P pl) i i) {i : Nat} (hi : i < n) : expB P pl n i = (P i).flatMap (pieceX pl (expB P pl n)) := by
 unfold expB
 conv => lhs; unfold expF
 refine flatMap_same fun p hp => ?_
 unfold pieceX
 by_cases h : p.2 = true
 ·rw [if_pos h, if_pos h]
  cases hk : pl p.1 with
  | none => rfl
  | some k =>
   have hd := rank_down hn ha hi (mem_scP hp h hk)
   have hl := rank_le (n := n) (scP P pl) i
   exact expF_same hn ha (rank (scP P pl) n k) k n (n + 1) (hn i hi k (mem_scP hp h hk)) (Nat.le_refl _) (by omega) (by omega)
 ·rw [if_neg h, if_neg h]
def sizeB (P : Nat → List PcB) (pl : List UInt8 → Option Nat) (n i : Nat) : Nat := min (expB P pl n i).length 201
end
end Go.Proofs.YtopghlnoklajkaaGreatDoor

namespace Go.Proofs.YtopghlnoklajkaaGreatDoor
open Go.ChangeShapes Go.WideShapes Go.ChangeAt Go.RowKit

def pCells (p : PcB) : List Value := [.string ⟨p.1.toArray⟩, .bool p.2]
def pFlat (l : List PcB) : List Value := l.flatMap pCells
theorem pFlat_len (l : List PcB) : (pFlat l).length = l.length * 2 := by
 unfold pFlat
 induction l with
 | nil => rfl
 | cons p r ih => rw [List.flatMap_cons, List.length_append, ih]; simp [pCells]; omega
theorem pFlat_app (a b : List PcB) : pFlat (a ++ b) = pFlat a ++ pFlat b := by unfold pFlat; rw [List.flatMap_append]
theorem pFlat_one (l : List PcB) : ∀ v ∈ pFlat l, v.oneCell' = true := by
 intro v hv
 obtain ⟨p, _, hp⟩ := List.mem_flatMap.1 hv
 unfold pCells at hp
 simp only [List.mem_cons, List.not_mem_nil, or_false] at hp
 rcases hp with rfl | rfl <;> rfl
theorem pFlat_at (l : List PcB) : ∀ k (h : k < l.length) j, j < 2 → (pFlat l)[k * 2 + j]? = (pCells l[k])[j]? := by
 induction l with
 | nil => intro k h; simp at h
 | cons p r ih =>
  intro k h j hj
  unfold pFlat
  rw [List.flatMap_cons]
  cases k with
  | zero =>
   rw [Nat.zero_mul, Nat.zero_add, List.getElem?_append_left (by simp [pCells]; omega)]
   rfl
  | succ k =>
   rw [List.getElem?_append_right (by simp [pCells]; omega)]
   have := ih k (by simpa using h) j hj
   simp only [List.getElem_cons_succ]
   rw [← this]
   unfold pFlat
   congr 1
   simp [pCells]
   omega
theorem infoPc : (Tryz.prog.info? 71).map (fun i => (i.zero, i.size, i.bytes)) = some (some (.agg #[.string ByteArray.empty, .bool false]), 2, 24) := by kernel_rfl
section
variable {w w' : World} {B B1 B2 n n1 n2 s1 s2 : Nat} {e e1 e2 : TypeId} {v v1 v2 : Value} {xs xs1 xs2 : List Value}
theorem rowApart (h1 : w.ownsRow B1 e1 s1 v1 n1 xs1) (h2 : w.ownsRow B2 e2 s2 v2 n2 xs2) (hne : e1 ≠ e2) : v1.ownBlock = none ∨ v1.ownBlock ≠ v2.ownBlock := by
 rcases h1.2 with ⟨rfl, _⟩ | ⟨g, cap, cur, rfl, _, hg, _⟩
 ·exact .inl rfl
 ·refine .inr fun h => ?_
  rcases h2.2 with ⟨rfl, _⟩ | ⟨g2, cap2, cur2, rfl, _, hg2, _⟩
  ·simp [Value.ownBlock] at h
  ·have : g = g2 := by simpa [Value.ownBlock] using h
   subst this
   rw [hg] at hg2
   injection hg2 with hg2
   injection hg2 with _ ht _
   exact hne ht
theorem rowBelow (h : w.ownsRow B e n v n1 xs) (hb : Below w.heap.size w w') : w'.ownsRow B e n v n1 xs :=
 h.kept (row := none) ⟨hb.os, hb.tape, hb.output, hb.size, fun k hk _ => hb.block k hk⟩ (by cases h2 : v.ownBlock with | none => exact Or.inl rfl | some _ => exact Or.inr (by simp))
theorem grownAlloc {o : Obj} {row : Option Nat} (hg : (w.alloc o).grownBy w' row) : w.grownBy w' row :=
 ⟨hg.os, hg.tape, hg.output, Nat.le_trans (by simp) hg.size, fun k hk hne => (hg.block k (by simp; omega) hne).trans ((below_one w o).block k hk)⟩
theorem rowGrown (h1 : w.ownsRow B1 e1 s1 v1 n1 xs1) (h2 : w.ownsRow B2 e2 s2 v2 n2 xs2) (hne : e1 ≠ e2) {o : Obj} (hg : (w.alloc o).grownBy w' v2.ownBlock) : w'.ownsRow B1 e1 s1 v1 n1 xs1 := h1.kept (grownAlloc hg) (rowApart h1 h2 hne)
end
theorem appendBy {ops : Array Oper} {rest : List Oper} {o : Oper} {a : Act} {Q : Exit → Act → World → Prop} (hgd : o.guard = none) (s x : Operand)
  (ho : o.op = .call { callee := .builtin .append, args := #[s, x], argTypes := #[30, 30] }) {B n : Nat} {w : World} {v : Value} {l : List UInt8} (hown : w.ownsRow B 5 1 v n (l.map b8)) (hB : B ≤ w.heap.size) (hn : n ≤ 10000000000) (c : UInt8) (z : Int) (hz : z = (c.toNat : Int)) (hs : a.eval s = v)
  {d g : Nat} (hx : a.eval x = .slice (some ⟨g, 0, none⟩) 1 d) (hg : g = w.heap.size)
  (h : ∀ y cap w', w'.ownsRow B 5 1 (.slice (some ⟨y, 0, none⟩) (n + 1) cap) (n + 1) ((l ++ [c]).map b8) → (w.alloc (Obj.cells #[.int .u8 z] 5)).grownBy w' v.ownBlock → wpList Tryz.prog ops Q rest (a.put o.dst (.slice (some ⟨y, 0, none⟩) (n + 1) cap)) w') :
  wpList Tryz.prog ops Q (o :: rest) a (w.alloc (Obj.cells #[.int .u8 z] 5)) := by
 subst hg hz
 obtain ⟨i0, hi, hz0, hz1, hz2⟩ := info_parts info8
 refine wpList_append_lies _ hgd s x _ ho B 5 i0 (.int .u8 0) 1 1 Tryz.underlying30 hi hz0 hz1 hz2 rfl (by decide) v n (l.map b8) hs (hown.alloc _) ⟨w.heap.size, 0, none⟩ 1 d [b8 c] hx rfl (World.news_of_block (heap_alloc_new w _)) ?_ (by decide) (by unfold maxLen; omega) (by omega) (Nat.le_trans hB (below_one w _).size) _ rfl ?_
 ·intro u hu
  rw [List.mem_singleton.1 hu]; rfl
 ·intro y cap w1 h1 h2 _ _
  exact h y cap w1 (by rw [List.map_append]; exact h1) h2
theorem appendPc {ops : Array Oper} {rest : List Oper} {o : Oper} {a : Act} {Q : Exit → Act → World → Prop} (hgd : o.guard = none) (s x : Operand)
  (ho : o.op = .call { callee := .builtin .append, args := #[s, x], argTypes := #[67, 67] }) {B n : Nat} {w : World} {v : Value} {l : List PcB} (hown : w.ownsRow B 71 2 v n (pFlat l)) (hB : B ≤ w.heap.size) (hn : n ≤ 10000000000) (ps : List PcB) (cs : Array Value) (hcs : cs = (pFlat ps).toArray) (hs : a.eval s = v)
  {m d g : Nat} (hm : ps.length = m) (hm0 : 0 < m) (hm9 : m ≤ 9) (hx : a.eval x = .slice (some ⟨g, 0, none⟩) m d) (hg : g = w.heap.size)
  (h : ∀ y cap w', w'.ownsRow B 71 2 (.slice (some ⟨y, 0, none⟩) (n + m) cap) (n + m) (pFlat (l ++ ps)) → (w.alloc (Obj.cells cs 71)).grownBy w' v.ownBlock → wpList Tryz.prog ops Q rest (a.put o.dst (.slice (some ⟨y, 0, none⟩) (n + m) cap)) w') :
  wpList Tryz.prog ops Q (o :: rest) a (w.alloc (Obj.cells cs 71)) := by
 subst hg hcs hm
 obtain ⟨i0, hi, hz0, hz1, hz2⟩ := info_parts infoPc
 refine wpList_append_lies _ hgd s x _ ho B 71 i0 _ 2 24 Tryz.underlying67 hi hz0 hz1 hz2 rfl (by decide) v n (pFlat l) hs (hown.alloc _) ⟨w.heap.size, 0, none⟩ ps.length d (pFlat ps) hx (pFlat_len ps) (World.news_of_block (heap_alloc_new w _)) (pFlat_one ps) hm0 (by unfold maxLen; omega) (by omega) (Nat.le_trans hB (below_one w _).size) _ rfl ?_
 intro y cap w1 h1 h2 _ _
 exact h y cap w1 (by rw [pFlat_app]; exact h1) h2
theorem stepPc {ops : Array Oper} {o : Oper} {a : Act} {W : World} {K : Act → World → Prop} {Q : Exit → Act → World → Prop} {E : Prop} (hgd : o.guard = none) (sl x : Operand)
  (ho : o.op = .call { callee := .builtin .append, args := #[sl, x], argTypes := #[67, 67] }) {B n : Nat} {v : Value} {l : List PcB} (hown : W.ownsRow B 71 2 v n (pFlat l)) (hB : B ≤ W.heap.size) (hn : n ≤ 10000000000) (ps : List PcB) (hs : a.eval sl = v)
  {g m c : Nat} (hm : ps.length = m) (hm0 : 0 < m) (hm9 : m ≤ 9) (hx : a.eval x = .slice (some ⟨g, 0, none⟩) m c) (hk : ∀ j u, (pFlat ps)[j]? = some u → W.cell? ⟨g, j, none⟩ = some u)
  (h : ∀ g2 cap W2, W2.ownsRow B 71 2 (.slice (some ⟨g2, 0, none⟩) (n + m) cap) (n + m) (pFlat (l ++ ps)) → W.grownBy W2 v.ownBlock → K (a.put o.dst (.slice (some ⟨g2, 0, none⟩) (n + m) cap)) W2) :
  if Region.wanted o (yielded ops a.tmps) = true then Oper.wp Tryz.prog o a W K Q else E := by
 subst hm
 obtain ⟨i0, hi, hz0, hz1, hz2⟩ := info_parts infoPc
 refine step_append_lies _ hgd sl x _ ho B 71 i0 _ 2 24 Tryz.underlying67 hi hz0 hz1 hz2 rfl (by decide) v n (pFlat l) hs hown ⟨g, 0, none⟩ ps.length c (pFlat ps) hx (pFlat_len ps) (fun j u hu => by rw [add_zero_at]; exact hk j u hu) (pFlat_one ps) hm0 (by unfold maxLen; omega) (by omega) hB _ rfl ?_
 intro g2 cap W2 h1 h2 _ _
 exact h g2 cap W2 (by rw [pFlat_app]; exact h1) h2
end Go.Proofs.YtopghlnoklajkaaGreatDoor
