/-
  StoLook, StoRec, StoOrd.
-/
import Derived.Test.YtlommddabccdeaaGreatDoorQStoBehM
import Derived.Test.YtlommddabccdeaaGreatDoorQCodecMath
import Derived.Sort.Statements
import Derived.Shelf.SlSortCmp.Insertion
import Derived.Lib.Bytealg
namespace Go.Proofs.YtlommddabccdeaaGreatDoor

def lookP (l : List PairV) (t k : ByteArray) : Option ByteArray := (l.find? (isP t k)).map (·.value)
theorem look_iff {l : List PairV} (hl : Rise l) {t k v : ByteArray} : lookP l t k = some v ↔ (⟨t, k, v⟩ : PairV) ∈ l := by
 unfold lookP
 constructor
 ·intro h
  obtain ⟨p, hp, rfl⟩ := Option.map_eq_some_iff.1 h
  have h1 := List.mem_of_find?_eq_some hp
  obtain ⟨h2, h3⟩ := isP_iff.1 (List.find?_some hp)
  cases p
  simp only at h2 h3 ⊢
  subst h2 h3
  exact h1
 ·intro h
  cases e : l.find? (isP t k) with
  | none =>
   have := List.find?_eq_none.1 e _ h
   exact absurd (isP_iff.2 ⟨rfl, rfl⟩) this
  | some q =>
   have h1 := List.mem_of_find?_eq_some e
   obtain ⟨h2, h3⟩ := isP_iff.1 (List.find?_some e)
   have := rise_one hl h1 h h2 h3
   rw [this]; rfl
theorem look_mem {l : List PairV} (hl : Rise l) {p : PairV} : p ∈ l ↔ lookP l p.table p.key = some p.value := (look_iff hl (v := p.value)).symm
theorem look_ext {a b : List PairV} (ha : Rise a) (hb : Rise b) (h : ∀ t k, lookP a t k = lookP b t k) : a = b :=
 rise_ext ha hb fun p => by rw [look_mem ha, look_mem hb, h]
theorem look_behind {l : List PairV} (hl : Rise l) (t k : ByteArray) (v : Option ByteArray) (t' k' : ByteArray) :
  lookP (behindL l t k v) t' k' = if t' = t ∧ k' = k then v else lookP l t' k' := by
 have hb := rise_behind hl t k v
 refine Option.ext fun x => ?_
 rw [look_iff hb, mem_behind hl]
 by_cases h : t' = t ∧ k' = k
 ·rw [if_pos h]
  obtain ⟨rfl, rfl⟩ := h
  have : isP t' k' ⟨t', k', x⟩ = true := isP_iff.2 ⟨rfl, rfl⟩
  simp [this]
 ·rw [if_neg h, look_iff hl]
  have : isP t k ⟨t', k', x⟩ = false := by
   cases e : isP t k ⟨t', k', x⟩ with
   | false => rfl
   | true => exact absurd (isP_iff.1 e) h
  simp [this]
structure ChgV where
 t : ByteArray
 k : ByteArray
 v : Option ByteArray
def allB (l : List PairV) (cs : List ChgV) : List PairV := cs.foldl (fun l c => behindL l c.t c.k c.v) l
theorem allB_cons (l : List PairV) (c : ChgV) (cs : List ChgV) : allB l (c :: cs) = allB (behindL l c.t c.k c.v) cs := rfl
theorem allB_append (l : List PairV) (cs ds : List ChgV) : allB l (cs ++ ds) = allB (allB l cs) ds := List.foldl_append
theorem rise_allB : ∀ {l : List PairV} (cs : List ChgV), Rise l → Rise (allB l cs)
 | _, [], h => h
 | _, c :: cs, h => rise_allB cs (rise_behind h c.t c.k c.v)
def chgOf (cs : List ChgV) (t k : ByteArray) : Option (Option ByteArray) := cs.foldl (fun o c => if t = c.t ∧ k = c.k then some c.v else o) none
theorem chgOf_fold (cs : List ChgV) (t k : ByteArray) (o : Option (Option ByteArray)) : cs.foldl (fun o c => if t = c.t ∧ k = c.k then some c.v else o) o = (chgOf cs t k).or o := by
 unfold chgOf
 induction cs generalizing o with
 | nil => simp
 | cons c cs ih =>
  simp only [List.foldl_cons]
  rw [ih, ih (if t = c.t ∧ k = c.k then some c.v else none)]
  by_cases h : t = c.t ∧ k = c.k
  ·rw [if_pos h, if_pos h]
   cases List.foldl (fun o c => if t = c.t ∧ k = c.k then some c.v else o) none cs <;> rfl
  ·rw [if_neg h, if_neg h]
   simp
theorem look_allB : ∀ {l : List PairV} (cs : List ChgV), Rise l → ∀ t k, lookP (allB l cs) t k = (chgOf cs t k).getD (lookP l t k)
 | _, [], _, _, _ => rfl
 | l, c :: cs, h, t, k => by
  rw [allB_cons, look_allB cs (rise_behind h c.t c.k c.v), look_behind h]
  have e : chgOf (c :: cs) t k = (chgOf cs t k).or (if t = c.t ∧ k = c.k then some c.v else none) := by
   show List.foldl _ _ _ = _
   rw [List.foldl_cons, chgOf_fold]
  rw [e]
  cases chgOf cs t k with
  | some o => rfl
  | none =>
   by_cases h2 : t = c.t ∧ k = c.k
   ·rw [if_pos h2, if_pos h2]; rfl
   ·rw [if_neg h2, if_neg h2]; rfl
def Does (l : List PairV) (c : ChgV) : Prop := c.v ≠ lookP l c.t c.k
theorem chgOf_one {cs : List ChgV} (hn : (cs.map fun c => (c.t, c.k)).Nodup) {c : ChgV} (hc : c ∈ cs) : chgOf cs c.t c.k = some c.v := by
 induction cs with
 | nil => cases hc
 | cons d cs ih =>
  have e : chgOf (d :: cs) c.t c.k = (chgOf cs c.t c.k).or (if c.t = d.t ∧ c.k = d.k then some d.v else none) := by
   show List.foldl _ _ _ = _
   rw [List.foldl_cons, chgOf_fold]
  rw [List.map_cons, List.nodup_cons] at hn
  rcases List.mem_cons.1 hc with rfl | hc
  ·have hno : ∀ ds : List ChgV, (c.t, c.k) ∉ (ds.map fun c => (c.t, c.k)) → chgOf ds c.t c.k = none := by
    intro ds hds
    induction ds with
    | nil => rfl
    | cons x ds ihd =>
     rw [List.map_cons, List.mem_cons, not_or] at hds
     have e2 : chgOf (x :: ds) c.t c.k = (chgOf ds c.t c.k).or (if c.t = x.t ∧ c.k = x.k then some x.v else none) := by
      show List.foldl _ _ _ = _
      rw [List.foldl_cons, chgOf_fold]
     rw [e2, ihd hds.2, if_neg (fun h => hds.1 (by rw [h.1, h.2]))]; rfl
   rw [e, hno cs hn.1, if_pos ⟨rfl, rfl⟩]; rfl
  ·rw [e, ih hn.2 hc]; rfl
theorem chgOf_none {cs : List ChgV} {t k : ByteArray} (h : ∀ c ∈ cs, ¬ (t = c.t ∧ k = c.k)) : chgOf cs t k = none := by
 induction cs with
 | nil => rfl
 | cons x ds ihd =>
  have e2 : chgOf (x :: ds) t k = (chgOf ds t k).or (if t = x.t ∧ k = x.k then some x.v else none) := by
   show List.foldl _ _ _ = _
   rw [List.foldl_cons, chgOf_fold]
  rw [e2, ihd (fun c hc => h c (List.mem_cons_of_mem _ hc)), if_neg (h x List.mem_cons_self)]; rfl
end Go.Proofs.YtlommddabccdeaaGreatDoor

namespace Go.Proofs.YtlommddabccdeaaGreatDoor

def txL (s : ByteArray) : List UInt8 := rowL s.data.toList.length ++ s.data.toList
def chgRow (c : ChgV) : List UInt8 := txL c.t ++ (txL c.k ++ (match c.v with
 | some x => rowL 1 ++ txL x
 | none => rowL 0))
def recC (cs : List ChgV) : List UInt8 := rowL 0 ++ cs.flatMap chgRow
def pairRow (p : PairV) : List UInt8 := txL p.table ++ (txL p.key ++ txL p.value)
def recW (ps : List PairV) : List UInt8 := rowL 1 ++ ps.flatMap pairRow
def okC (c : ChgV) : Bool := okP ⟨c.t, c.k, c.v.getD emB⟩
def lessC (c d : ChgV) : Bool := lessP ⟨c.t, c.k, emB⟩ ⟨d.t, d.k, emB⟩
def RiseC (cs : List ChgV) : Prop := cs.Pairwise fun c d => lessC c d = true
structure RightC (ps : List PairV) (cs : List ChgV) : Prop where
 ok : ∀ c ∈ cs, okC c = true
 rise : RiseC cs
 does : ∀ c ∈ cs, Does ps c
 some_ : cs ≠ []
 most : (allB ps cs).length ≤ 500
structure RightW (ps : List PairV) : Prop where
 ok : ∀ p ∈ ps, okP p = true
 rise : Rise ps
 most : ps.length ≤ 500
inductive Says : List (List UInt8) → List PairV → Prop
 | none_ : Says [] []
 | whole {ps : List PairV} (h : RightW ps) : Says [recW ps] ps
 | more {rs : List (List UInt8)} {ps : List PairV} {cs : List ChgV} (h : Says rs ps) (hc : RightC ps cs) : Says (rs ++ [recC cs]) (allB ps cs)
theorem riseC_nodup {cs : List ChgV} (h : RiseC cs) : (cs.map fun c => (c.t, c.k)).Nodup := by
 refine List.pairwise_map.2 (h.imp ?_)
 intro c d hcd e
 unfold lessC at hcd
 have h1 : c.t = d.t := congrArg Prod.fst e
 have h2 : c.k = d.k := congrArg Prod.snd e
 rw [h1, h2, lessP_irrefl] at hcd
 exact absurd hcd (by simp)
theorem ok_allB : ∀ {l : List PairV} (cs : List ChgV), Rise l → (∀ p ∈ l, okP p = true) → (∀ c ∈ cs, okC c = true) → ∀ p ∈ allB l cs, okP p = true
 | _, [], _, h, _ => h
 | l, c :: cs, hr, h, hc => ok_allB cs (rise_behind hr c.t c.k c.v) (ok_behind hr h fun x e => by
   have := hc c List.mem_cons_self
   unfold okC at this
   rw [e] at this; exact this) (fun d hd => hc d (List.mem_cons_of_mem _ hd))
theorem Says.right {rs : List (List UInt8)} {ps : List PairV} (h : Says rs ps) : Rise ps ∧ (∀ p ∈ ps, okP p = true) ∧ ps.length ≤ 500 := by
 induction h with
 | none_ => exact ⟨List.Pairwise.nil, nofun, by simp⟩
 | whole h => exact ⟨h.rise, h.ok, h.most⟩
 | more _ hc ih => exact ⟨rise_allB _ ih.1, ok_allB _ ih.1 ih.2.1 hc.ok, hc.most⟩
theorem takeT_tx {s : ByteArray} {m : Int} (hm : (s.size : Int) ≤ m) (h : s.size ≤ 65535) (r : List UInt8) : takeT (txL s ++ r) m = (s.data.toList, r, 0) := by
 have e : s.data.toList.length = s.size := by rw [Array.length_toList]; rfl
 unfold txL
 exact takeT_row (by rw [e]; exact h) (by rw [e]; exact hm)
theorem takeN_0 (r : List UInt8) : takeN (rowL 0 ++ r) = (0, r, 0) := takeN_row (by decide) r
theorem takeN_1 (r : List UInt8) : takeN (rowL 1 ++ r) = (1, r, 0) := takeN_row (by decide) r
theorem txL_len (s : ByteArray) (h : s.size ≤ 65535) : (txL s).length ≤ s.size + 3 := by
 have e : s.data.toList.length = s.size := by rw [Array.length_toList]; rfl
 unfold txL
 rw [List.length_append, e]
 have := rowL_len3 h
 omega
theorem okP_sizes {p : PairV} (h : okP p = true) : p.table.size ≤ 32 ∧ p.key.size ≤ 32 ∧ p.value.size ≤ 200 := by
 unfold okP wordB at h
 simp only [Bool.and_eq_true, decide_eq_true_eq, Array.length_toList] at h
 exact ⟨h.1.1.1.2, h.1.2.1.2, h.2⟩
theorem flat_len {α : Type} (f : α → List UInt8) (n : Nat) : ∀ l : List α, (∀ x ∈ l, (f x).length ≤ n) → (l.flatMap f).length ≤ l.length * n
 | [], _ => by simp
 | x :: l, h => by
  have := flat_len f n l fun y hy => h y (List.mem_cons_of_mem _ hy)
  have := h x List.mem_cons_self
  rw [List.flatMap_cons, List.length_append, List.length_cons, Nat.succ_mul]
  omega
end Go.Proofs.YtlommddabccdeaaGreatDoor

namespace Go.Proofs.YtlommddabccdeaaGreatDoor

theorem cmpL_lt : ∀ a b : List UInt8, Lib.compareBytes a b < 0 ↔ Op.bytesLess a b = true
 | [], [] => by simp [Lib.compareBytes, Op.bytesLess]
 | [], _ :: _ => by simp [Lib.compareBytes, Op.bytesLess]
 | _ :: _, [] => by simp [Lib.compareBytes, Op.bytesLess]
 | x :: a, y :: b => by
  unfold Lib.compareBytes Op.bytesLess
  simp only [Bool.or_eq_true, Bool.and_eq_true, decide_eq_true_eq, beq_iff_eq]
  by_cases h1 : x < y
  ·rw [if_pos h1]; simp [h1]
  ·rw [if_neg h1]
   by_cases h2 : y < x
   ·rw [if_pos h2]
    have : x ≠ y := fun e => by rw [e] at h2; exact UInt8.lt_irrefl y h2
    simp [h1, this]
   ·rw [if_neg h2]
    have e : x = y := UInt8.le_antisymm (UInt8.not_lt.1 h2) (UInt8.not_lt.1 h1)
    rw [cmpL_lt a b]
    simp [e]
theorem cmpL_eq0 : ∀ a b : List UInt8, Lib.compareBytes a b = 0 ↔ a = b
 | [], [] => by simp [Lib.compareBytes]
 | [], _ :: _ => by simp [Lib.compareBytes]
 | _ :: _, [] => by simp [Lib.compareBytes]
 | x :: a, y :: b => by
  unfold Lib.compareBytes
  by_cases h1 : x < y
  ·rw [if_pos h1]
   have : x ≠ y := fun e => by rw [e] at h1; exact UInt8.lt_irrefl y h1
   simp [this]
  ·rw [if_neg h1]
   by_cases h2 : y < x
   ·rw [if_pos h2]
    have : x ≠ y := fun e => by rw [e] at h2; exact UInt8.lt_irrefl y h2
    simp [this]
   ·rw [if_neg h2]
    have e : x = y := UInt8.le_antisymm (UInt8.not_lt.1 h2) (UInt8.not_lt.1 h1)
    rw [cmpL_eq0 a b]
    simp [e]
abbrev Plc := ByteArray × ByteArray
def plP (x : Plc) : PairV := ⟨x.1, x.2, emB⟩
def cmpTx (a b : ByteArray) : Int := Lib.compareBytes a.data.toList b.data.toList
def cmpPl (x y : Plc) : Int := if cmpTx x.1 y.1 ≠ 0 then cmpTx x.1 y.1 else cmpTx x.2 y.2
theorem cmpTx_lt (a b : ByteArray) : cmpTx a b < 0 ↔ ltB a b = true := by unfold cmpTx ltB; rw [Lib.toList_data, Lib.toList_data]; exact cmpL_lt _ _
theorem cmpTx_eq (a b : ByteArray) : cmpTx a b = 0 ↔ eqB a b = true := by
 unfold cmpTx eqB; rw [Lib.toList_data, Lib.toList_data, beq_iff_eq]; exact cmpL_eq0 _ _
theorem cmpPl_lt (x y : Plc) : cmpPl x y < 0 ↔ lessP (plP x) (plP y) = true := by
 unfold cmpPl lessP plP
 simp only [Bool.or_eq_true, Bool.and_eq_true]
 by_cases h : cmpTx x.1 y.1 = 0
 ·rw [if_neg (by simpa using h), cmpTx_lt]
  have h1 := (cmpTx_eq _ _).1 h
  have h2 : ¬ ltB x.1 y.1 = true := fun e => by have := (cmpTx_lt _ _).2 e; omega
  simp [h1, h2]
 ·rw [if_pos h, cmpTx_lt]
  have h1 : ¬ eqB x.1 y.1 = true := fun e => h ((cmpTx_eq _ _).2 e)
  simp [h1]
def lessPl (x y : Plc) : Bool := lessP (plP x) (plP y)
theorem ltOf_cmp (x y : Plc) : ltOf cmpPl x y = lessPl x y := by
 unfold ltOf lessPl
 rw [Bool.eq_iff_iff, decide_eq_true_eq]
 exact cmpPl_lt x y
theorem lessPl_irrefl (x : Plc) : lessPl x x = false := lessP_irrefl _
theorem lessPl_trans {x y z : Plc} (h : lessPl x y = true) (k : lessPl y z = true) : lessPl x z = true := lessP_trans h k
theorem lessPl_tri {x y : Plc} (h : lessPl x y = false) (k : lessPl y x = false) : y = x := by
 obtain ⟨h1, h2⟩ := lessP_tri h k
 exact Prod.ext h1 h2
theorem swoPl : Go.Sort.SWO (ltOf cmpPl) where
 irrefl x := by rw [ltOf_cmp]; exact lessPl_irrefl x
 trans x y z h1 h2 := by rw [ltOf_cmp] at *; exact lessPl_trans h1 h2
 ntrans x y z h1 h2 := by
  rw [ltOf_cmp] at *
  cases h : lessPl x z with
  | false => rfl
  | true =>
   exfalso
   cases h3 : lessPl y x with
   | true =>
    rw [lessPl_trans h3 h] at h2; cases h2
   | false =>
    have e := lessPl_tri h1 h3
    rw [e] at h2
    rw [h] at h2; cases h2
def RisePl (l : List Plc) : Prop := l.Pairwise fun x y => lessPl x y = true
theorem risePl_ext : ∀ {a b : List Plc}, RisePl a → RisePl b → (∀ x, x ∈ a ↔ x ∈ b) → a = b
 | [], [], _, _, _ => rfl
 | [], y :: b, _, _, h => absurd ((h y).2 List.mem_cons_self) (by simp)
 | x :: a, [], _, _, h => absurd ((h x).1 List.mem_cons_self) (by simp)
 | x :: a, y :: b, ha, hb, h => by
  obtain ⟨a1, a2⟩ := List.pairwise_cons.1 ha
  obtain ⟨b1, b2⟩ := List.pairwise_cons.1 hb
  have e : x = y := by
   rcases List.mem_cons.1 ((h x).1 List.mem_cons_self) with e | hx
   ·exact e
   ·rcases List.mem_cons.1 ((h y).2 List.mem_cons_self) with e | hy
    ·exact e.symm
    ·have h1 := a1 y hy
     have h2 := b1 x hx
     have h3 := lessPl_trans h1 h2
     rw [lessPl_irrefl] at h3; cases h3
  subst e
  congr 1
  refine risePl_ext a2 b2 fun z => ⟨fun hz => ?_, fun hz => ?_⟩
  ·rcases List.mem_cons.1 ((h z).1 (List.mem_cons_of_mem _ hz)) with e | h1
   ·have h2 := a1 z hz
    rw [e, lessPl_irrefl] at h2; cases h2
   ·exact h1
  ·rcases List.mem_cons.1 ((h z).2 (List.mem_cons_of_mem _ hz)) with e | h1
   ·have h2 := b1 z hz
    rw [e, lessPl_irrefl] at h2; cases h2
   ·exact h1
def conV : Option ByteArray → Value
 | some v => .agg #[.bool true, .string v]
 | none => .agg #[.bool false, .string emB]
def comF (ps : List PairV) (t k : ByteArray) : Option Value := (lookP ps t k).map fun v => conV (some v)
def chgF (ps nx : List PairV) (t k : ByteArray) : Option Value := if lookP nx t k = lookP ps t k then none else some (conV (lookP nx t k))
def ptsL (ps : List PairV) : List Plc := ps.map fun p => (p.table, p.key)
theorem look_some_mem {ps : List PairV} (h : Rise ps) {t k v : ByteArray} (e : lookP ps t k = some v) : (t, k) ∈ ptsL ps := List.mem_map.2 ⟨_, (look_iff h).1 e, rfl⟩
theorem mem_ptsL {ps : List PairV} (h : Rise ps) {t k : ByteArray} : (t, k) ∈ ptsL ps ↔ ∃ v, lookP ps t k = some v := by
 constructor
 ·intro hm
  obtain ⟨p, hp, e⟩ := List.mem_map.1 hm
  injection e with e1 e2
  subst e1 e2
  exact ⟨p.value, (look_mem h).1 hp⟩
 ·rintro ⟨v, hv⟩
  exact look_some_mem h hv
theorem rise_ptsL {ps : List PairV} (h : Rise ps) : RisePl (ptsL ps) := List.pairwise_map.2 (h.imp fun {a b} hab => by
 unfold lessPl plP
 rw [lessP_key (q := ⟨b.table, b.key, emB⟩) (r := b) rfl rfl, lessP_key' (p := b) (q := ⟨a.table, a.key, emB⟩) (r := a) rfl rfl]
 exact hab)
def chgPl (ps nx : List PairV) : List Plc := ((ptsL ps ++ (ptsL nx).filter fun x => (lookP ps x.1 x.2).isNone).filter fun x => decide (lookP nx x.1 x.2 ≠ lookP ps x.1 x.2))
theorem mem_chgPl {ps nx : List PairV} (h : Rise ps) (h' : Rise nx) {x : Plc} : x ∈ chgPl ps nx ↔ lookP nx x.1 x.2 ≠ lookP ps x.1 x.2 := by
 obtain ⟨t, k⟩ := x
 unfold chgPl
 rw [List.mem_filter, decide_eq_true_eq]
 constructor
 ·exact fun h => h.2
 ·intro hne
  refine ⟨?_, hne⟩
  rw [List.mem_append]
  cases hp : lookP ps t k with
  | some v => exact Or.inl (look_some_mem h hp)
  | none =>
   right
   rw [List.mem_filter]
   refine ⟨?_, by simp [hp]⟩
   cases hn : lookP nx t k with
   | some v => exact look_some_mem h' hn
   | none => simp [hp, hn] at hne
theorem chgPl_len (ps nx : List PairV) : (chgPl ps nx).length ≤ ps.length + nx.length := by
 unfold chgPl
 refine Nat.le_trans (List.length_filter_le _ _) ?_
 rw [List.length_append]
 have := List.length_filter_le (fun x : Plc => (lookP ps x.1 x.2).isNone) (ptsL nx)
 simp only [ptsL, List.length_map] at this ⊢
 omega
def chgsOf (nx : List PairV) (l : List Plc) : List ChgV := l.map fun x => ⟨x.1, x.2, lookP nx x.1 x.2⟩
open Classical in
theorem chgOf_chgs (nx : List PairV) (l : List Plc) (t k : ByteArray) : chgOf (chgsOf nx l) t k = if (t, k) ∈ l then some (lookP nx t k) else none := by
 by_cases h : (t, k) ∈ l
 ·rw [if_pos h]
  induction l with
  | nil => cases h
  | cons x l ih =>
   show chgOf (⟨x.1, x.2, lookP nx x.1 x.2⟩ :: chgsOf nx l) t k = _
   unfold chgOf
   rw [List.foldl_cons, chgOf_fold]
   by_cases hl : (t, k) ∈ l
   ·rw [ih hl]; rfl
   ·have hc : chgOf (chgsOf nx l) t k = none := chgOf_none fun c hc => by
     obtain ⟨y, hy, rfl⟩ := List.mem_map.1 hc
     rintro ⟨rfl, rfl⟩
     exact hl hy
    rw [hc]
    rcases List.mem_cons.1 h with e | e
    ·subst e; simp
    ·exact absurd e hl
 ·rw [if_neg h]
  refine chgOf_none fun c hc => ?_
  obtain ⟨y, hy, rfl⟩ := List.mem_map.1 hc
  rintro ⟨rfl, rfl⟩
  exact h hy
theorem allB_chgs {ps nx : List PairV} (h : Rise ps) (h' : Rise nx) {l : List Plc} (hl : ∀ x : Plc, x ∈ l ↔ lookP nx x.1 x.2 ≠ lookP ps x.1 x.2) : allB ps (chgsOf nx l) = nx :=
 look_ext (rise_allB _ h) h' fun t k => by
  rw [look_allB _ h, chgOf_chgs]
  by_cases hm : (t, k) ∈ l
  ·rw [if_pos hm]; rfl
  ·rw [if_neg hm]
   have := mt (hl (t, k)).2 hm
   simp only [ne_eq, Decidable.not_not] at this
   exact this.symm
end Go.Proofs.YtlommddabccdeaaGreatDoor
