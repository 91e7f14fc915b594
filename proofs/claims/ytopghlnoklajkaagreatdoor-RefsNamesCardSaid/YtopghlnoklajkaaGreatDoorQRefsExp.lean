/-
  RefsGraph, RefsExp.
-/
import Derived.Test.YtopghlnoklajkaaGreatDoorQRefsMath
namespace Go.Proofs.YtopghlnoklajkaaGreatDoor

/-- It leads to it, by one step or more. -/
inductive Lead (sc : Nat → List Nat) : Nat → Nat → Prop
  | one {i k : Nat} : k ∈ sc i → Lead sc i k
  | more {i k j : Nat} : k ∈ sc i → Lead sc k j → Lead sc i j
section
variable {sc : Nat → List Nat} {n : Nat}
theorem Lead.trans {i k j : Nat} (h : Lead sc i k) (h2 : Lead sc k j) : Lead sc i j := by
  induction h with
  | one h => exact .more h h2
  | more h _ ih => exact .more h (ih h2)
theorem Lead.in_ (hn : ∀ i, i < n → ∀ k ∈ sc i, k < n) {i j : Nat} (h : Lead sc i j) (hi : i < n) : j < n := by
  induction h with
  | one h => exact hn _ hi _ h
  | more h _ ih => exact ih (hn _ hi _ h)
/-- What a marking of all that 'at' leads to leaves: V are the marks ahead of it, V' those behind it. -/
structure Marked (sc : Nat → List Nat) (at_ : Nat) (V V' : Nat → Prop) : Prop where
  keep : ∀ k, V k → V' k
  only : ∀ k, V' k → V k ∨ Lead sc at_ k
  next : ∀ k ∈ sc at_, V' k
  shut : ∀ k, V' k → ¬ V k → ∀ j ∈ sc k, V' j
/-- The same, as far as the first m of what is spoken of are gone through. -/
structure MarkedTo (l : List Nat) (sc : Nat → List Nat) (at_ : Nat) (V V' : Nat → Prop) : Prop where
  keep : ∀ k, V k → V' k
  only : ∀ k, V' k → V k ∨ Lead sc at_ k
  next : ∀ k ∈ l, V' k
  shut : ∀ k, V' k → ¬ V k → ∀ j ∈ sc k, V' j
theorem MarkedTo.nil_ (at_ : Nat) (V : Nat → Prop) : MarkedTo [] sc at_ V V := ⟨fun _ h => h, fun _ h => .inl h, fun k h => (by cases h), fun k h h2 => absurd h h2⟩
theorem MarkedTo.all {at_ : Nat} {V V' : Nat → Prop} (h : MarkedTo (sc at_) sc at_ V V') : Marked sc at_ V V' := ⟨h.keep, h.only, h.next, h.shut⟩
/-- One more that is marked already. -/
theorem MarkedTo.met {l : List Nat} {at_ k : Nat} {V V' : Nat → Prop} (h : MarkedTo l sc at_ V V') (hk : V' k) : MarkedTo (l ++ [k]) sc at_ V V' :=
  ⟨h.keep, h.only, fun j hj => by
    rcases List.mem_append.1 hj with hj | hj
    · exact h.next j hj
    · rw [List.mem_singleton.1 hj]; exact hk, h.shut⟩
/-- One more that is marked now, and all that it leads to. -/
theorem MarkedTo.new {l : List Nat} {at_ k : Nat} {V V1 V2 : Nat → Prop} (h : MarkedTo l sc at_ V V1) (hk : k ∈ sc at_) (h2 : Marked sc k (fun j => V1 j ∨ j = k) V2) : MarkedTo (l ++ [k]) sc at_ V V2 :=
  ⟨fun j hj => h2.keep j (.inl (h.keep j hj)), fun j hj => by
    rcases h2.only j hj with (h3 | rfl) | h3
    · exact h.only j h3
    · exact .inr (.one hk)
    · exact .inr (.more hk h3), fun j hj => by
    rcases List.mem_append.1 hj with hj | hj
    · exact h2.keep j (.inl (h.next j hj))
    · rw [List.mem_singleton.1 hj]; exact h2.keep k (.inr rfl), fun j hj hv i hi => by
    by_cases h3 : V1 j
    · exact h2.keep i (.inl (h.shut j h3 hv i hi))
    · by_cases h4 : j = k
      · subst h4; exact h2.next i hi
      · exact h2.shut j hj (fun h5 => by rcases h5 with h5 | h5 <;> contradiction) i hi⟩
/-- A marking that begins with none marks just what it leads to. -/
theorem Marked.just {at_ : Nat} {V' : Nat → Prop} (h : Marked sc at_ (fun _ => False) V') (k : Nat) : V' k ↔ Lead sc at_ k := by
  refine ⟨fun hk => (h.only k hk).resolve_left id, fun hk => ?_⟩
  have hs : ∀ i j, Lead sc i j → (V' i ∨ i = at_) → V' j := by
    intro i j hl
    induction hl with
    | one he => intro hi; rcases hi with hi | rfl
                · exact h.shut _ hi id _ he
                · exact h.next _ he
    | more he _ ih => intro hi; refine ih (.inl ?_); rcases hi with hi | rfl
                      · exact h.shut _ hi id _ he
                      · exact h.next _ he
  exact hs at_ k hk (.inr rfl)
/-- How many of the first n are not marked. -/
def unm (n : Nat) (V : Nat → Bool) : Nat := ((List.range n).filter fun k => !V k).length
theorem unm_less {V V' : Nat → Bool} (hk : ∀ k, V k = true → V' k = true) : unm n V' ≤ unm n V := by
  unfold unm
  induction n with
  | zero => simp
  | succ n ih =>
    rw [List.range_succ, List.filter_append, List.filter_append, List.length_append, List.length_append]
    have h := hk n
    cases h1 : V n <;> cases h2 : V' n <;> simp_all <;> omega
theorem unm_mark {V : Nat → Bool} {k : Nat} (hk : k < n) (h : V k = false) : unm n (fun j => V j || decide (j = k)) < unm n V := by
  unfold unm
  induction n with
  | zero => omega
  | succ n ih =>
    rw [List.range_succ, List.filter_append, List.filter_append, List.length_append, List.length_append]
    by_cases hn : k = n
    · subst hn
      have h1 : ((List.range k).filter fun j => !(V j || decide (j = k))).length = ((List.range k).filter fun j => !V j).length := by
        congr 1
        apply List.filter_congr
        intro j hj
        have := List.mem_range.1 hj
        have hne : j ≠ k := by omega
        simp [hne]
      rw [h1]
      simp [h]
    · have h1 := ih (by omega)
      have hne : n ≠ k := fun e => hn e.symm
      have h2 : ([n].filter fun j => !(V j || decide (j = k))) = ([n].filter fun j => !V j) := List.filter_congr fun j hj => by rw [List.mem_singleton.1 hj, decide_eq_false hne, Bool.or_false]
      rw [h2]
      omega
/-- How many of the first n it leads to. -/
noncomputable def rank (sc : Nat → List Nat) (n i : Nat) : Nat := by
  classical
  exact ((List.range n).filter fun k => decide (Lead sc i k)).length
theorem filter_less {α : Type} {p q : α → Bool} {l : List α} (h : ∀ x ∈ l, p x = true → q x = true) {y : α} (hy : y ∈ l) (hq : q y = true) (hp : p y = false) : (l.filter p).length < (l.filter q).length := by
  have hle : ∀ m : List α, (∀ x ∈ m, p x = true → q x = true) → (m.filter p).length ≤ (m.filter q).length := by
    intro m
    induction m with
    | nil => intro _; simp
    | cons x r ih =>
      intro hm
      have h1 := ih fun y hy => hm y (List.mem_cons_of_mem _ hy)
      have h2 := hm x (List.mem_cons_self ..)
      rw [List.filter_cons, List.filter_cons]
      cases hpx : p x <;> cases hqx : q x <;> simp_all <;> omega
  induction l with
  | nil => cases hy
  | cons x r ih =>
    rw [List.filter_cons, List.filter_cons]
    rcases List.mem_cons.1 hy with rfl | hy
    · rw [hp, hq]
      have := hle r fun z hz => h z (List.mem_cons_of_mem _ hz)
      simp; omega
    · have h1 := ih (fun z hz => h z (List.mem_cons_of_mem _ hz)) hy
      have h2 := h x (List.mem_cons_self ..)
      cases hpx : p x <;> cases hqx : q x <;> simp_all <;> omega
/-- One step goes down, where none leads to itself. -/
theorem rank_down (hn : ∀ i, i < n → ∀ k ∈ sc i, k < n) (ha : ∀ i, i < n → ¬ Lead sc i i) {i k : Nat} (hi : i < n) (hk : k ∈ sc i) : rank sc n k < rank sc n i := by
  classical
  unfold rank
  have hkn := hn i hi k hk
  refine filter_less (y := k) (fun j _ hj => ?_) (List.mem_range.2 hkn) ?_ ?_
  · rw [decide_eq_true_eq] at hj ⊢
    exact .more hk hj
  · rw [decide_eq_true_eq]; exact .one hk
  · rw [decide_eq_false_iff_not]; exact ha k hkn
end
end Go.Proofs.YtopghlnoklajkaaGreatDoor

namespace Go.Proofs.YtopghlnoklajkaaGreatDoor

section
variable (P : Nat → List PcB) (pl : List UInt8 → Option Nat)
/-- What the pieces of a setting speak of, by places. -/
def scP (i : Nat) : List Nat := (P i).filterMap fun p => if p.2 = true then pl p.1 else none
/-- What one piece stands for, where the expansions of settings are known. -/
def pieceX (X : Nat → List UInt8) (p : PcB) : List UInt8 := if p.2 = true then (match pl p.1 with | some k => X k | none => []) else p.1
/-- An expansion, as far as f steps go. -/
def expF : Nat → Nat → List UInt8
  | 0, _ => []
  | f + 1, i => (P i).flatMap (pieceX pl (expF f))
end
section
variable {P : Nat → List PcB} {pl : List UInt8 → Option Nat} {n : Nat}
theorem mem_scP {i k : Nat} {p : PcB} (hp : p ∈ P i) (h : p.2 = true) (hk : pl p.1 = some k) : k ∈ scP P pl i := List.mem_filterMap.2 ⟨p, hp, by rw [if_pos h]; exact hk⟩
theorem flatMap_same {α β : Type} {f g : α → List β} : ∀ {l : List α}, (∀ x ∈ l, f x = g x) → l.flatMap f = l.flatMap g := by
  intro l
  induction l with
  | nil => intro _; rfl
  | cons x r ih => intro h; rw [List.flatMap_cons, List.flatMap_cons, h x (List.mem_cons_self ..), ih fun y hy => h y (List.mem_cons_of_mem _ hy)]
theorem expF_same (hn : ∀ i, i < n → ∀ k ∈ scP P pl i, k < n) (ha : ∀ i, i < n → ¬ Lead (scP P pl) i i) : ∀ (r i f g : Nat), i < n → rank (scP P pl) n i ≤ r → r < f → r < g → expF P pl f i = expF P pl g i := by
  intro r
  induction r with
  | zero =>
    intro i f g hi hr hf hg
    obtain ⟨f, rfl⟩ : ∃ f', f = f' + 1 := ⟨f - 1, by omega⟩
    obtain ⟨g, rfl⟩ : ∃ g', g = g' + 1 := ⟨g - 1, by omega⟩
    refine flatMap_same fun p hp => ?_
    unfold pieceX
    by_cases h : p.2 = true
    · rw [if_pos h, if_pos h]
      cases hk : pl p.1 with
      | none => rfl
      | some k =>
        have := rank_down hn ha hi (mem_scP hp h hk)
        omega
    · rw [if_neg h, if_neg h]
  | succ r ih =>
    intro i f g hi hr hf hg
    obtain ⟨f, rfl⟩ : ∃ f', f = f' + 1 := ⟨f - 1, by omega⟩
    obtain ⟨g, rfl⟩ : ∃ g', g = g' + 1 := ⟨g - 1, by omega⟩
    refine flatMap_same fun p hp => ?_
    unfold pieceX
    by_cases h : p.2 = true
    · rw [if_pos h, if_pos h]
      cases hk : pl p.1 with
      | none => rfl
      | some k =>
        have hd := rank_down hn ha hi (mem_scP hp h hk)
        exact ih k f g (hn i hi k (mem_scP hp h hk)) (by omega) (by omega) (by omega)
    · rw [if_neg h, if_neg h]
theorem rank_le (sc : Nat → List Nat) (i : Nat) : rank sc n i ≤ n := by
  classical
  unfold rank
  refine Nat.le_trans (List.length_filter_le _ _) ?_
  simp
/-- An expansion. -/
def expB (P : Nat → List PcB) (pl : List UInt8 → Option Nat) (n i : Nat) : List UInt8 := expF P pl (n + 1) i
/-- An expansion is that of its pieces. -/
theorem expB_is (hn : ∀ i, i < n → ∀ k ∈ scP P pl i, k < n) (ha : ∀ i, i < n → ¬ Lead (scP P pl) i i) {i : Nat} (hi : i < n) : expB P pl n i = (P i).flatMap (pieceX pl (expB P pl n)) := by
  unfold expB
  conv => lhs; unfold expF
  refine flatMap_same fun p hp => ?_
  unfold pieceX
  by_cases h : p.2 = true
  · rw [if_pos h, if_pos h]
    cases hk : pl p.1 with
    | none => rfl
    | some k =>
      have hd := rank_down hn ha hi (mem_scP hp h hk)
      have hl := rank_le (n := n) (scP P pl) i
      exact expF_same hn ha (rank (scP P pl) n k) k n (n + 1) (hn i hi k (mem_scP hp h hk)) (Nat.le_refl _) (by omega) (by omega)
  · rw [if_neg h, if_neg h]
/-- How long an expansion is; 201, if it is longer than 200. -/
def sizeB (P : Nat → List PcB) (pl : List UInt8 → Option Nat) (n i : Nat) : Nat := min (expB P pl n i).length 201
def pieceN (pl : List UInt8 → Option Nat) (Z : Nat → Nat) (p : PcB) : Nat := if p.2 = true then (match pl p.1 with | some k => Z k | none => 0) else p.1.length
/-- What is added up, as far as it goes. -/
theorem sum_cut (X : Nat → List UInt8) : ∀ (l : List PcB) (a : Nat), min (a + ((l.map (pieceN pl fun k => min (X k).length 201)).sum)) 201 = min (a + (l.flatMap (pieceX pl X)).length) 201 := by
  intro l
  induction l with
  | nil => intro a; simp
  | cons p r ih =>
    intro a
    rw [List.map_cons, List.sum_cons, List.flatMap_cons, List.length_append]
    have h1 := ih (a + pieceN pl (fun k => min (X k).length 201) p)
    have h2 : min (pieceN pl (fun k => min (X k).length 201) p) 201 = min (pieceX pl X p).length 201 := by
      unfold pieceN pieceX
      by_cases h : p.2 = true
      · rw [if_pos h, if_pos h]
        cases pl p.1 with
        | none => simp
        | some k => simp only; omega
      · rw [if_neg h, if_neg h]
    generalize pieceN pl (fun k => min (X k).length 201) p = x at *
    generalize (pieceX pl X p).length = y at *
    generalize (r.map (pieceN pl fun k => min (X k).length 201)).sum = s at *
    generalize (r.flatMap (pieceX pl X)).length = t at *
    omega
end
end Go.Proofs.YtopghlnoklajkaaGreatDoor
