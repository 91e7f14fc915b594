/-
  RefsGraph, RefsExp, ValueNum, Bytes.
-/
import Derived.Test.YtopghlnoklajkaaGreatDoorQRefsMath
import Derived.Test.YtopghlnoklajkaaGreatDoorQValueUnit
import Derived.Deep.RegionLaw
import Derived.Test.YtopghlnoklajkaaGreatDoorRows
import Derived.WalkKit
import Derived.ProofKit
import Derived.OpenShut
import Derived.WalkLawsBesides
import Derived.Lib.Hide
import Derived.Lib.ConvBytes
import Derived.Laws.IdiomStrings
import Derived.Laws.BytesArg
namespace Go.Proofs.YtopghlnoklajkaaGreatDoor

/-- It leads to it, by one step or more. -/
inductive Lead (sc : Nat → List Nat) : Nat → Nat → Prop
  | one {i k : Nat} : k ∈ sc i → Lead sc i k
  | more {i k j : Nat} : k ∈ sc i → Lead sc k j → Lead sc i j
section
variable {sc : Nat → List Nat} {n : Nat}
theorem Lead.trans {i k j : Nat} (h : Lead sc i k) (h2 : Lead sc k j) : Lead sc i j := by
  induction h with
  | one h => exact .more h h2
  | more h _ ih => exact .more h (ih h2)
/-- What a marking of all that 'at' leads to leaves: V are the marks ahead of it, V' those behind it. -/
structure Marked (sc : Nat → List Nat) (at_ : Nat) (V V' : Nat → Prop) : Prop where
  keep : ∀ k, V k → V' k
  only : ∀ k, V' k → V k ∨ Lead sc at_ k
  next : ∀ k ∈ sc at_, V' k
  shut : ∀ k, V' k → ¬ V k → ∀ j ∈ sc k, V' j
/-- The same, as far as the first m of what is spoken of are gone through. -/
structure MarkedTo (l : List Nat) (sc : Nat → List Nat) (at_ : Nat) (V V' : Nat → Prop) : Prop where
  keep : ∀ k, V k → V' k
  only : ∀ k, V' k → V k ∨ Lead sc at_ k
  next : ∀ k ∈ l, V' k
  shut : ∀ k, V' k → ¬ V k → ∀ j ∈ sc k, V' j
theorem MarkedTo.nil_ (at_ : Nat) (V : Nat → Prop) : MarkedTo [] sc at_ V V := ⟨fun _ h => h, fun _ h => .inl h, fun k h => (by cases h), fun k h h2 => absurd h h2⟩
theorem MarkedTo.all {at_ : Nat} {V V' : Nat → Prop} (h : MarkedTo (sc at_) sc at_ V V') : Marked sc at_ V V' := ⟨h.keep, h.only, h.next, h.shut⟩
/-- One more that is marked already. -/
theorem MarkedTo.met {l : List Nat} {at_ k : Nat} {V V' : Nat → Prop} (h : MarkedTo l sc at_ V V') (hk : V' k) : MarkedTo (l ++ [k]) sc at_ V V' :=
  ⟨h.keep, h.only, fun j hj => by
    rcases List.mem_append.1 hj with hj | hj
    · exact h.next j hj
    · rw [List.mem_singleton.1 hj]; exact hk, h.shut⟩
/-- One more that is marked now, and all that it leads to. -/
theorem MarkedTo.new {l : List Nat} {at_ k : Nat} {V V1 V2 : Nat → Prop} (h : MarkedTo l sc at_ V V1) (hk : k ∈ sc at_) (h2 : Marked sc k (fun j => V1 j ∨ j = k) V2) : MarkedTo (l ++ [k]) sc at_ V V2 :=
  ⟨fun j hj => h2.keep j (.inl (h.keep j hj)), fun j hj => by
    rcases h2.only j hj with (h3 | rfl) | h3
    · exact h.only j h3
    · exact .inr (.one hk)
    · exact .inr (.more hk h3), fun j hj => by
    rcases List.mem_append.1 hj with hj | hj
    · exact h2.keep j (.inl (h.next j hj))
    · rw [List.mem_singleton.1 hj]; exact h2.keep k (.inr rfl), fun j hj hv i hi => by
    by_cases h3 : V1 j
    · exact h2.keep i (.inl (h.shut j h3 hv i hi))
    · by_cases h4 : j = k
      · subst h4; exact h2.next i hi
      · exact h2.shut j hj (fun h5 => by rcases h5 with h5 | h5 <;> contradiction) i hi⟩
/-- How many of the first n are not marked. -/
def unm (n : Nat) (V : Nat → Bool) : Nat := ((List.range n).filter fun k => !V k).length
theorem unm_less {V V' : Nat → Bool} (hk : ∀ k, V k = true → V' k = true) : unm n V' ≤ unm n V := by
  unfold unm
  induction n with
  | zero => simp
  | succ n ih =>
    rw [List.range_succ, List.filter_append, List.filter_append, List.length_append, List.length_append]
    have h := hk n
    cases h1 : V n <;> cases h2 : V' n <;> simp_all <;> omega
theorem unm_mark {V : Nat → Bool} {k : Nat} (hk : k < n) (h : V k = false) : unm n (fun j => V j || decide (j = k)) < unm n V := by
  unfold unm
  induction n with
  | zero => omega
  | succ n ih =>
    rw [List.range_succ, List.filter_append, List.filter_append, List.length_append, List.length_append]
    by_cases hn : k = n
    · subst hn
      have h1 : ((List.range k).filter fun j => !(V j || decide (j = k))).length = ((List.range k).filter fun j => !V j).length := by
        congr 1
        apply List.filter_congr
        intro j hj
        have := List.mem_range.1 hj
        have hne : j ≠ k := by omega
        simp [hne]
      rw [h1]
      simp [h]
    · have h1 := ih (by omega)
      have hne : n ≠ k := fun e => hn e.symm
      have h2 : ([n].filter fun j => !(V j || decide (j = k))) = ([n].filter fun j => !V j) := List.filter_congr fun j hj => by rw [List.mem_singleton.1 hj, decide_eq_false hne, Bool.or_false]
      rw [h2]
      omega
/-- How many of the first n it leads to. -/
noncomputable def rank (sc : Nat → List Nat) (n i : Nat) : Nat := by
  classical
  exact ((List.range n).filter fun k => decide (Lead sc i k)).length
theorem filter_less {α : Type} {p q : α → Bool} {l : List α} (h : ∀ x ∈ l, p x = true → q x = true) {y : α} (hy : y ∈ l) (hq : q y = true) (hp : p y = false) : (l.filter p).length < (l.filter q).length := by
  have hle : ∀ m : List α, (∀ x ∈ m, p x = true → q x = true) → (m.filter p).length ≤ (m.filter q).length := by
    intro m
    induction m with
    | nil => intro _; simp
    | cons x r ih =>
      intro hm
      have h1 := ih fun y hy => hm y (List.mem_cons_of_mem _ hy)
      have h2 := hm x (List.mem_cons_self ..)
      rw [List.filter_cons, List.filter_cons]
      cases hpx : p x <;> cases hqx : q x <;> simp_all <;> omega
  induction l with
  | nil => cases hy
  | cons x r ih =>
    rw [List.filter_cons, List.filter_cons]
    rcases List.mem_cons.1 hy with rfl | hy
    · rw [hp, hq]
      have := hle r fun z hz => h z (List.mem_cons_of_mem _ hz)
      simp; omega
    · have h1 := ih (fun z hz => h z (List.mem_cons_of_mem _ hz)) hy
      have h2 := h x (List.mem_cons_self ..)
      cases hpx : p x <;> cases hqx : q x <;> simp_all <;> omega
/-- One step goes down, where none leads to itself. -/
theorem rank_down (hn : ∀ i, i < n → ∀ k ∈ sc i, k < n) (ha : ∀ i, i < n → ¬ Lead sc i i) {i k : Nat} (hi : i < n) (hk : k ∈ sc i) : rank sc n k < rank sc n i := by
  classical
  unfold rank
  have hkn := hn i hi k hk
  refine filter_less (y := k) (fun j _ hj => ?_) (List.mem_range.2 hkn) ?_ ?_
  · rw [decide_eq_true_eq] at hj ⊢
    exact .more hk hj
  · rw [decide_eq_true_eq]; exact .one hk
  · rw [decide_eq_false_iff_not]; exact ha k hkn
end
end Go.Proofs.YtopghlnoklajkaaGreatDoor

namespace Go.Proofs.YtopghlnoklajkaaGreatDoor

section
variable (P : Nat → List PcB) (pl : List UInt8 → Option Nat)
/-- What the pieces of a setting speak of, by places. -/
def scP (i : Nat) : List Nat := (P i).filterMap fun p => if p.2 = true then pl p.1 else none
/-- What one piece stands for, where the expansions of settings are known. -/
def pieceX (X : Nat → List UInt8) (p : PcB) : List UInt8 := if p.2 = true then (match pl p.1 with | some k => X k | none => []) else p.1
/-- An expansion, as far as f steps go. -/
def expF : Nat → Nat → List UInt8
  | 0, _ => []
  | f + 1, i => (P i).flatMap (pieceX pl (expF f))
end
section
variable {P : Nat → List PcB} {pl : List UInt8 → Option Nat} {n : Nat}
theorem mem_scP {i k : Nat} {p : PcB} (hp : p ∈ P i) (h : p.2 = true) (hk : pl p.1 = some k) : k ∈ scP P pl i := List.mem_filterMap.2 ⟨p, hp, by rw [if_pos h]; exact hk⟩
theorem flatMap_same {α β : Type} {f g : α → List β} : ∀ {l : List α}, (∀ x ∈ l, f x = g x) → l.flatMap f = l.flatMap g := by
  intro l
  induction l with
  | nil => intro _; rfl
  | cons x r ih => intro h; rw [List.flatMap_cons, List.flatMap_cons, h x (List.mem_cons_self ..), ih fun y hy => h y (List.mem_cons_of_mem _ hy)]
theorem expF_same (hn : ∀ i, i < n → ∀ k ∈ scP P pl i, k < n) (ha : ∀ i, i < n → ¬ Lead (scP P pl) i i) : ∀ (r i f g : Nat), i < n → rank (scP P pl) n i ≤ r → r < f → r < g → expF P pl f i = expF P pl g i := by
  intro r
  induction r with
  | zero =>
    intro i f g hi hr hf hg
    obtain ⟨f, rfl⟩ : ∃ f', f = f' + 1 := ⟨f - 1, by omega⟩
    obtain ⟨g, rfl⟩ : ∃ g', g = g' + 1 := ⟨g - 1, by omega⟩
    refine flatMap_same fun p hp => ?_
    unfold pieceX
    by_cases h : p.2 = true
    · rw [if_pos h, if_pos h]
      cases hk : pl p.1 with
      | none => rfl
      | some k =>
        have := rank_down hn ha hi (mem_scP hp h hk)
        omega
    · rw [if_neg h, if_neg h]
  | succ r ih =>
    intro i f g hi hr hf hg
    obtain ⟨f, rfl⟩ : ∃ f', f = f' + 1 := ⟨f - 1, by omega⟩
    obtain ⟨g, rfl⟩ : ∃ g', g = g' + 1 := ⟨g - 1, by omega⟩
    refine flatMap_same fun p hp => ?_
    unfold pieceX
    by_cases h : p.2 = true
    · rw [if_pos h, if_pos h]
      cases hk : pl p.1 with
      | none => rfl
      | some k =>
        have hd := rank_down hn ha hi (mem_scP hp h hk)
        exact ih k f g (hn i hi k (mem_scP hp h hk)) (by omega) (by omega) (by omega)
    · rw [if_neg h, if_neg h]
theorem rank_le (sc : Nat → List Nat) (i : Nat) : rank sc n i ≤ n := by
  classical
  unfold rank
  refine Nat.le_trans (List.length_filter_le _ _) ?_
  simp
/-- An expansion. -/
def expB (P : Nat → List PcB) (pl : List UInt8 → Option Nat) (n i : Nat) : List UInt8 := expF P pl (n + 1) i
/-- An expansion is that of its pieces. -/
theorem expB_is (hn : ∀ i, i < n → ∀ k ∈ scP P pl i, k < n) (ha : ∀ i, i < n → ¬ Lead (scP P pl) i i) {i : Nat} (hi : i < n) : expB P pl n i = (P i).flatMap (pieceX pl (expB P pl n)) := by
  unfold expB
  conv => lhs; unfold expF
  refine flatMap_same fun p hp => ?_
  unfold pieceX
  by_cases h : p.2 = true
  · rw [if_pos h, if_pos h]
    cases hk : pl p.1 with
    | none => rfl
    | some k =>
      have hd := rank_down hn ha hi (mem_scP hp h hk)
      have hl := rank_le (n := n) (scP P pl) i
      exact expF_same hn ha (rank (scP P pl) n k) k n (n + 1) (hn i hi k (mem_scP hp h hk)) (Nat.le_refl _) (by omega) (by omega)
  · rw [if_neg h, if_neg h]
end
end Go.Proofs.YtopghlnoklajkaaGreatDoor

namespace Go.Proofs.YtopghlnoklajkaaGreatDoor
open Go.ChangeShapes Go.WideShapes Go.ChangeAt Go.RowKit

theorem numOkS_lead48 {s : ByteArray} (h0 : 0 < s.size) (h : numOkS s.data.toList = true) (h1 : 1 < nDig s.data.toList) : ¬ s[0].toNat = 48 := fun h48 => by
  rw [numOkS_lead h0 h1 h48] at h; cases h
theorem numOkS_pos {l : List UInt8} (h : numOkS l = true) : 0 < nDig l := by
  rcases Nat.eq_zero_or_pos (nDig l) with h0 | h0
  · rw [numOkS_zero h0] at h; cases h
  · exact h0

set_option maxHeartbeats 1600000 in
set_option maxRecDepth 100000 in
theorem number_yes (s r : ByteArray) (w : World) (hT : Tab w) (hs : s.size ≤ maxLen) (h : numOkS s.data.toList = true) (hr : r = mkB (s.data.toList.dropWhile isD)) :
    Calls Tryz.prog 145 #[.string s] w fun e w' => e = .returned (.tuple #[.int .i64 (capN (dec (s.data.toList.takeWhile isD))), .string r, .bool true]) ∧ Below w.heap.size w w' := by
  have hs' := hs
  unfold maxLen at hs'
  have hle := nDig_le s.data.toList
  have hsz : s.data.toList.length = s.size := by simp
  have hp := numOkS_pos h
  have hpos : 0 < s.size := by omega
  have h48 := numOkS_lead48 hpos h
  have htk := nDig_take s.data.toList
  have hdp := nDig_drop s.data.toList
  have hall := takeWhile_all s.data.toList
  rw [← htk]
  rw [← htk] at hall
  rw [← hdp] at hr
  obtain ⟨n, hn⟩ : ∃ n, nDig s.data.toList = n := ⟨_, rfl⟩
  have HN := Lib.hid hn
  rw [hn] at hle hp h48 hall hr ⊢
  rw [hsz] at hle
  have hx : (s.extract 0 n).data.toList = s.data.toList.take n := Lib.extract_from_zero s n
  have hy : s.extract n s.size = r := by rw [hr, ← Lib.extract_to_end, mkB_self]
  have HX := Lib.hid hx
  have HY := Lib.hid hy
  have hALL : Hid ((s.extract 0 n).data.toList.all isD = true) := Lib.hid (by rw [hx]; exact hall)
  have hSZ : Hid ((s.extract 0 n).size ≤ maxLen) := Lib.hid (by unfold maxLen; rw [ByteArray.size_extract]; omega)
  have d2 : ((n : Int) == 0) = false := beq_eq_false_iff_ne.2 (by omega)
  have q1 : (0 : Int) ≤ n := by omega
  have q2 : (n : Int) ≤ s.size := by omega
  rw [← HX.out]
  clear hx hy hr hall htk hdp hn h hsz hs
  by_cases h1 : 1 < n
  · have d3 : decide (1 < (n : Int)) = true := decide_eq_true (by omega)
    have d4 : ((s[0].toNat : Int) == 48) = false := beq_eq_false_iff_ne.2 (fun e => h48 h1 (by omega))
    clear h48 h1
    go_enter Tryz.func145, Tryz.ntmps145
    go_wp2_with fail
    refine (digits_any _ _ hT (by unfold maxLen; exact hs')).mono ?_
    rintro e w1 ⟨rfl, hb⟩
    rw [HN.out]
    go_wp2
    first
      | (go_region_law ((go_simp; (with_reducible refine (said_any _ _ hALL.out hSZ.out).mono ?_); rintro e w2 ⟨rfl, hb2⟩; dsimp only)))
      | fail
    all_goals
      go_wp2
      rw [HY.out]
      exact bodyPost_ret (v := .tuple #[.int .i64 (capN (dec (s.extract 0 n).data.toList)), .string r, .bool true]) (by simp [results, Tryz.results145, go_sem]) rfl ⟨rfl, hb.trans (((below_drewN w1 1).trans hb2).mono hb.size)⟩
  · have d3 : decide (1 < (n : Int)) = false := decide_eq_false (by omega)
    clear h48 h1
    go_enter Tryz.func145, Tryz.ntmps145
    go_wp2_with fail
    refine (digits_any _ _ hT (by unfold maxLen; exact hs')).mono ?_
    rintro e w1 ⟨rfl, hb⟩
    rw [HN.out]
    go_wp2
    first
      | (go_region_law ((go_simp; (with_reducible refine (said_any _ _ hALL.out hSZ.out).mono ?_); rintro e w2 ⟨rfl, hb2⟩; dsimp only)))
      | fail
    all_goals
      go_wp2
      rw [HY.out]
      exact bodyPost_ret (v := .tuple #[.int .i64 (capN (dec (s.extract 0 n).data.toList)), .string r, .bool true]) (by simp [results, Tryz.results145, go_sem]) rfl ⟨rfl, hb.trans (((below_drewN w1 1).trans hb2).mono hb.size)⟩

/-- What a reader of one kind answers, where no list is in it. -/
def numR (p : Val × Int) : Value := .tuple #[.agg #[.int .i64 p.1.kind, .int .i64 p.1.int, .string p.1.text, .slice none 0 0], .int .i64 p.2]
end Go.Proofs.YtopghlnoklajkaaGreatDoor

namespace Go.Proofs.YtopghlnoklajkaaGreatDoor
open Go.ChangeShapes Go.WideShapes Go.ChangeAt Go.RowKit

/-- A byte as a value, and as a list of bytes. -/
def b8 (c : UInt8) : Value := .int .u8 (c.toNat : Int)
def str (l : List UInt8) : Value := .string ⟨l.toArray⟩
theorem add_zero_at (g j : Nat) : (⟨g, 0, none⟩ : Addr).add j = ⟨g, j, none⟩ := by unfold Addr.add; split <;> simp_all

/-- Block g holds the bytes l from its head on, none of them frozen. -/
def Row8 (w : World) (g : Nat) (l : List UInt8) : Prop := ∀ j (hj : j < l.length), w.cell? ⟨g, j, none⟩ = some (.int .u8 (l[j].toNat : Int)) ∧ w.frozen? ⟨g, j, none⟩ = false

theorem Row8.set {w : World} {g : Nat} {l : List UInt8} (h : Row8 w g l) (k : Nat) (c : UInt8) : Row8 (w.setCell ⟨g, k, none⟩ (.int .u8 (c.toNat : Int))) g (l.set k c) := by
  intro j hj
  have hj' : j < l.length := by simpa using hj
  obtain ⟨h1, h2⟩ := h j hj'
  refine ⟨?_, by rw [World.frozen?_setCell]; exact h2⟩
  by_cases e : k = j
  · subst e
    rw [World.cell?_setCell_same _ _ _ h1]; simp
  · rw [World.cell?_setCell_other _ _ _ _ (by simp), h1]; simp [e]

theorem ofBytes {P : Program} (ts tb te : TypeId) (w : World) (g cap n : Nat) (l : List UInt8) (hn : n = l.length) (hs : P.underlying ts = some .string) (hb : P.underlying tb = some (.slice te)) (he : P.underlying te = some (.int .u8)) (h : Row8 w g l) :
    (convert tb ts (.slice (some ⟨g, 0, none⟩) n cap)).run P w = .ok (.string ⟨l.toArray⟩) w := by
  subst hn
  exact run_convert_bytes_back w tb ts te ⟨g, 0, none⟩ cap l hb he hs fun j hj => by rw [add_zero_at]; exact (h j hj).1

/-- A slice of bytes of the call's own, begun in world w0. -/
structure Own8 (w0 w : World) (v : Value) (l : List UInt8) : Prop where
  own : w.ownsRow w0.heap.size 5 1 v l.length (l.map b8)
  below : Below w0.heap.size w0 w

theorem Own8.drew {w0 w : World} {v : Value} {l : List UInt8} (h : Own8 w0 w v l) : Own8 w0 w.drew v l := ⟨h.own.drew, h.below.drew⟩
theorem Own8.nil_ (w : World) : Own8 w w (.slice none 0 0) [] := ⟨World.ownsRow_nil _ _ _ _, Below.refl _ _⟩

theorem Own8.string {w0 w : World} {v : Value} {l : List UInt8} (h : Own8 w0 w v l) {P : Program} (ts tb : TypeId) (hs : P.underlying ts = some .string) (hb : P.underlying tb = some (.slice 5)) (he : P.underlying 5 = some (.int .u8)) :
    (convert tb ts v).run P w = .ok (str l) w := by
  have ho := h.own
  rcases ho.2 with ⟨rfl, hn⟩ | ⟨g, cap, cur, rfl, _⟩
  · have : l = [] := List.eq_nil_of_length_eq_zero hn
    subst this
    rw [run_convert_bytes_nil w tb 5 hb he 0 0 ts hs]; rfl
  · exact ofBytes ts tb 5 w g cap l.length l rfl hs hb he fun j hj => by
      have hc := ho.cellAt j (by simpa using hj)
      exact ⟨by rw [hc]; simp [b8, hj], ho.frozenAt j⟩

theorem Own8.alloc {w0 w : World} {v : Value} {l : List UInt8} (h : Own8 w0 w v l) (o : Obj) : Own8 w0 (w.alloc o) v l := ⟨h.own.alloc _, h.below.alloc h.below.size _⟩

theorem Own8.made {w0 w w' : World} {n : Nat} (hb : Below w0.heap.size w0 w) (h1 : w'.ownsRow w0.heap.size 5 1 (.slice (some ⟨w.heap.size, 0, none⟩) 0 n) 0 []) (h2 : w.grownBy w' Option.none) : Own8 w0 w' (.slice (some ⟨w.heap.size, 0, none⟩) 0 n) [] :=
  ⟨h1, hb.grown h2 hb.size (fun k hk => by cases hk)⟩
end Go.Proofs.YtopghlnoklajkaaGreatDoor
