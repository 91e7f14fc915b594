/-
  StpPrg, StpFnd.
-/
import Derived.Test.YticcdighfojjjaaGreatDoorQStpBack
import Derived.Test.YticcdighfojjjaaGreatDoorQStpMay
import Derived.Test.YticcdighfojjjaaGreatDoorQStpRef1
namespace Go.Proofs.YticcdighfojjjaaGreatDoor

/-- One more at the end, if its place is free. -/
def putQ (l : List PairV) (p : PairV) : List PairV × Int := if hasP l p.table p.key then ([], 161) else (l ++ [p], 0)
def copyQ (l : List PairV) (s : StepV) : List PairV × Int :=
  if h : posP l s.table s.key < l.length then putQ l ⟨s.table, s.to, l[posP l s.table s.key].value⟩ else (l, 0)
def renQ (l : List PairV) (s : StepV) : List PairV × Int := if (copyQ l s).2 ≠ 0 then ([], (copyQ l s).2) else (dropP (copyQ l s).1 s.table s.key, 0)
def reT (t to : ByteArray) (q : PairV) : PairV := if eqB q.table t then toT to q else q
def anyT (l : List PairV) (t : ByteArray) : Bool := l.any (inT t)
def tabQ (l : List PairV) (s : StepV) : List PairV × Int := if anyT l s.table = false then (l, 0) else if anyT l s.to = true then ([], 161) else (l.map (reT s.table s.to), 0)
def chgQ (l : List PairV) (s : StepV) : List PairV × Int :=
  if s.kind = 1 then putQ l ⟨s.table, s.key, s.text⟩ else if s.kind = 2 then (dropP l s.table s.key, 0) else if s.kind = 3 then renQ l s
  else if s.kind = 4 then tabQ l s else if s.kind = 5 then mapP s.text s.table l else copyQ l s
theorem perm_ins (l : List PairV) (p : PairV) : (insP l p).Perm (l ++ [p]) := by
  unfold insP
  refine List.perm_middle.trans ?_
  rw [List.takeWhile_append_dropWhile]
  exact (List.perm_append_singleton p l).symm
theorem perm_fold : ∀ (ms rest : List PairV), (ms.foldl insP rest).Perm (rest ++ ms)
  | [], rest => by simp
  | m :: ms, rest => by
    rw [List.foldl_cons]
    refine (perm_fold ms _).trans ?_
    refine ((perm_ins rest m).append_right ms).trans ?_
    rw [List.append_assoc]; rfl
theorem any_no {l : List PairV} {t : ByteArray} : anyT l t = false ↔ ∀ q ∈ l, q.table ≠ t := by
  unfold anyT
  rw [List.any_eq_false]
  exact ⟨fun h q hq e => h q hq (inT_iff.2 e), fun h q hq e => h q hq (inT_iff.1 e)⟩
theorem any_yes {l : List PairV} {t : ByteArray} : anyT l t = true ↔ ∃ q ∈ l, q.table = t := by
  unfold anyT
  rw [List.any_eq_true]
  exact ⟨fun ⟨q, h1, h2⟩ => ⟨q, h1, inT_iff.1 h2⟩, fun ⟨q, h1, h2⟩ => ⟨q, h1, inT_iff.2 h2⟩⟩
theorem keep_not (t : ByteArray) (q : PairV) : keepP t emB q = !inT t q := by
  cases h : inT t q with
  | true =>
    have := inT_iff.1 h
    cases h2 : keepP t emB q with
    | true => exact absurd this (keepP_all.1 h2)
    | false => rfl
  | false =>
    cases h2 : keepP t emB q with
    | true => rfl
    | false =>
      have : ¬ ¬ q.table = t := fun h3 => by rw [keepP_all.2 h3] at h2; cases h2
      rw [inT_iff.2 (Decidable.not_not.1 this)] at h; cases h
theorem perm_tab (l : List PairV) (t to : ByteArray) : (l.map (reT t to)).Perm ((movedP l t to).foldl insP (dropP l t emB)) := by
  refine List.Perm.trans ?_ (perm_fold _ _).symm
  have h1 : (l.filter (inT t) ++ l.filter fun q => !inT t q).Perm l := List.filter_append_perm _ _
  refine (h1.symm.map _).trans ?_
  rw [List.map_append]
  have e1 : (l.filter (inT t)).map (reT t to) = movedP l t to := by
    unfold movedP
    refine List.map_congr_left fun q hq => ?_
    have := (List.mem_filter.1 hq).2
    unfold reT; rw [show eqB q.table t = true from this]; rfl
  have e2 : (l.filter fun q => !inT t q).map (reT t to) = dropP l t emB := by
    have e3 : (l.filter fun q => !inT t q) = dropP l t emB := by unfold dropP; exact List.filter_congr fun q _ => (keep_not t q).symm
    rw [e3]
    have : (dropP l t emB).map (reT t to) = (dropP l t emB).map id := List.map_congr_left fun q hq => by
      have := (mem_drop_all.1 hq).2
      unfold reT; rw [eqB_ne this]; rfl
    rw [this, List.map_id]
  rw [e1, e2]
  exact List.perm_append_comm
theorem drop_none {l : List PairV} {t k : ByteArray} (hk : k.size ≠ 0) (h : hasP l t k = false) : dropP l t k = l := by
  unfold dropP
  rw [List.filter_eq_self]
  exact fun q hq => (keepP_no hk).2 (hasP_no h q hq)
theorem copy_cases (l : List PairV) (s : StepV) : (hasP l s.table s.key = false ∧ copyQ l s = (l, 0)) ∨ (hasP l s.table s.key = true ∧ hasP l s.table s.to = true ∧ copyQ l s = ([], 161)) ∨
    (∃ h : posP l s.table s.key < l.length, hasP l s.table s.key = true ∧ hasP l s.table s.to = false ∧ copyQ l s = (l ++ [⟨s.table, s.to, l[posP l s.table s.key].value⟩], 0)) := by
  unfold copyQ putQ
  by_cases h : posP l s.table s.key < l.length
  · rw [dif_pos h]
    have h1 := posP_lt.1 h
    by_cases h2 : hasP l s.table s.to = true
    · exact .inr (.inl ⟨h1, h2, if_pos h2⟩)
    · exact .inr (.inr ⟨h, h1, by simpa using h2, if_neg h2⟩)
  · rw [dif_neg h]
    refine .inl ⟨?_, rfl⟩
    cases e : hasP l s.table s.key with
    | true => exact absurd (posP_lt.2 e) h
    | false => rfl
theorem mov_copy {l : List PairV} {s : StepV} (k : s.kind ≠ 3) : (copyQ l s).2 = (movP l s).2 ∧ ((movP l s).2 = 0 → (copyQ l s).1.Perm (movP l s).1) := by
  unfold movP
  rcases copy_cases l s with ⟨h1, e⟩ | ⟨h1, h2, e⟩ | ⟨h, h1, h2, e⟩
  · rw [e, dif_neg (fun h => by rw [posP_lt.1 h] at h1; cases h1)]
    exact ⟨rfl, fun _ => List.Perm.refl _⟩
  · rw [e, dif_pos (posP_lt.2 h1), if_pos h2]
    exact ⟨rfl, fun h => by cases h⟩
  · rw [e, dif_pos h, if_neg (by rw [h2]; simp), if_neg k]
    exact ⟨rfl, fun _ => (perm_ins _ _).symm⟩
theorem mov_ren {l : List PairV} {s : StepV} (k : s.kind = 3) (hk : s.key.size ≠ 0) : (renQ l s).2 = (movP l s).2 ∧ ((movP l s).2 = 0 → (renQ l s).1.Perm (movP l s).1) := by
  unfold movP renQ
  rcases copy_cases l s with ⟨h1, e⟩ | ⟨h1, h2, e⟩ | ⟨h, h1, h2, e⟩
  · rw [e, dif_neg (fun h => by rw [posP_lt.1 h] at h1; cases h1), if_neg (by simp)]
    refine ⟨rfl, fun _ => ?_⟩
    show (dropP l s.table s.key).Perm l
    rw [drop_none hk h1]
  · rw [e, dif_pos (posP_lt.2 h1), if_pos h2, if_pos (by simp)]
    exact ⟨rfl, fun h => by cases h⟩
  · rw [e, dif_pos h, if_neg (by simp), if_neg (by rw [h2]; simp), if_pos k]
    refine ⟨rfl, fun _ => ?_⟩
    refine List.Perm.trans ?_ (perm_ins _ _).symm
    show (dropP (l ++ [_]) s.table s.key).Perm _
    have hne : s.to ≠ s.key := fun e => by rw [e, h1] at h2; cases h2
    unfold dropP
    rw [List.filter_append]
    have : List.filter (keepP s.table s.key) [⟨s.table, s.to, l[posP l s.table s.key].value⟩] = [⟨s.table, s.to, l[posP l s.table s.key].value⟩] := by
      rw [List.filter_eq_self]
      intro q hq
      rw [List.mem_singleton] at hq
      subst hq
      exact (keepP_no hk).2 fun ⟨_, e⟩ => hne e
    rw [this]
theorem chg_does {l : List PairV} {s : StepV} (hr : rightS s = true) : (chgQ l s).2 = (doesP l s).2 ∧ ((doesP l s).2 = 0 → (chgQ l s).1.Perm (doesP l s).1) := by
  have hp := right_parts hr
  rcases right_kind hr with k | k | k | k | k
  · rw [does1 k]
    unfold chgQ putQ
    rw [if_pos k]
    simp only
    split
    · exact ⟨rfl, fun h => by cases h⟩
    · exact ⟨rfl, fun _ => (perm_ins _ _).symm⟩
  · rw [does2 k]
    unfold chgQ
    rw [if_neg (by omega), if_pos k]
    exact ⟨rfl, fun _ => List.Perm.refl _⟩
  · rw [does4 k]
    unfold chgQ tabQ
    rw [if_neg (by omega), if_neg (by omega), if_neg (by omega), if_pos k]
    rcases tab_cases l s with ⟨h1, e⟩ | ⟨h1, h2, e⟩ | ⟨h1, h2, e⟩
    · rw [e, if_pos (any_no.2 h1)]
      exact ⟨rfl, fun _ => List.Perm.refl _⟩
    · rw [e, if_neg (by rw [any_yes.2 h1]; simp), if_pos (any_yes.2 h2)]
      exact ⟨rfl, fun h => by cases h⟩
    · rw [e, if_neg (by rw [any_yes.2 h1]; simp), if_neg (by rw [any_no.2 h2]; simp)]
      exact ⟨rfl, fun _ => perm_tab _ _ _⟩
  · rw [does5 k]
    unfold chgQ
    rw [if_neg (by omega), if_neg (by omega), if_neg (by omega), if_neg (by omega), if_pos k]
    exact ⟨rfl, fun _ => List.Perm.refl _⟩
  · rw [does3 k]
    unfold chgQ
    rcases k with k | k
    · rw [if_neg (by omega), if_neg (by omega), if_pos k]
      exact mov_ren k (wordA_pos (hp.2.2.1 (.inl k)).1)
    · rw [if_neg (by omega), if_neg (by omega), if_neg (by omega), if_neg (by omega), if_neg (by omega)]
      exact mov_copy (by omega)
/-- No two of them of one table and key, in whatever order. -/
theorem perm_rise {a b : List PairV} (ha : Rise a) (hb : Rise b) (h : a.Perm b) : a = b := rise_ext ha hb fun _ => h.mem_iff
end Go.Proofs.YticcdighfojjjaaGreatDoor

namespace Go.Proofs.YticcdighfojjjaaGreatDoor
open Go.ChangeShapes Go.WideShapes Go.ChangeAt Go.RowKit

/-- Where a predicate is met first. -/
def idxI (f : PairV → Bool) (ps : List PairV) : Int := if ps.any f then ((ps.takeWhile fun q => !f q).length : Int) else -1
theorem idx_none {f : PairV → Bool} {ps : List PairV} (h : ∀ j (hj : j < ps.length), f ps[j] = false) : idxI f ps = -1 := by
  unfold idxI
  rw [if_neg]
  rw [List.any_eq_true]
  rintro ⟨q, hq, h2⟩
  obtain ⟨j, hj, rfl⟩ := List.getElem_of_mem hq
  rw [h j hj] at h2; cases h2
theorem idx_some {f : PairV → Bool} : ∀ {ps : List PairV} {i : Nat} (hi : i < ps.length), (∀ j (hj : j < i), f (ps[j]'(Nat.lt_trans hj hi)) = false) → f ps[i] = true → idxI f ps = i
  | [], i, hi, _, _ => absurd hi (by simp)
  | q :: r, 0, _, _, h => by
    unfold idxI
    have hq : f q = true := h
    rw [if_pos (by rw [List.any_cons, hq]; rfl), List.takeWhile_cons, hq]; rfl
  | q :: r, i + 1, hi, hb, h => by
    have hq : f q = false := hb 0 (by omega)
    have ih := idx_some (ps := r) (i := i) (by simpa using hi) (fun j hj => hb (j + 1) (by omega)) h
    unfold idxI at ih ⊢
    rw [List.any_cons, hq, Bool.false_or, List.takeWhile_cons, hq]
    split at ih
    · rename_i h2
      rw [if_pos h2]
      simp only [Bool.not_false, if_true, List.length_cons]
      omega
    · omega
/-- What is asked of a predicate of pairs. -/
def PredP (g : FuncId) (lb : Array Value) (f : PairV → Bool) (w : World) : Prop := ∀ (W : World) (p : PairV), Below w.heap.size w W → Calls Tryz.prog g (#[pV p] ++ lb) W fun e w' => e = .returned (.bool (f p)) ∧ w' = W.alloc (pO p)
set_option maxHeartbeats 1600000 in
set_option maxRecDepth 100000 in
theorem index_any (ps : List PairV) (x : Option Addr) (n c : Nat) (g : FuncId) (lb : Array Value) (f : PairV → Bool) (w : World) (h : PrsAt w x ps) (hn : ps.length = n) (hl : n ≤ 2147483647)
    (eg : ∀ args w, (callFunc g args).run Tryz.prog w = .ok (.enter g args) w) (hp : PredP g lb f w) :
    Calls Tryz.prog 105 #[.slice x n c, .func (.func g) #[] lb] w fun e w' => e = .returned (.int .i64 (idxI f ps)) ∧ Below w.heap.size w w' := by
  have HN := Lib.hid hn
  have HX := Lib.hid h
  have HP := Lib.hid hp
  clear hn h hp
  go_enter Tryz.func105, Tryz.ntmps105
  go_wp2
  go_loopw [5, 8] (fun _ i wr => ∃ s : Nat, i = .int .i64 s ∧ s ≤ n ∧ Hid (Below w.heap.size w wr ∧ ∀ j (hj : j < ps.length), j < s → f ps[j] = false)) (fun _ i _ => n - (intOf i).toNat)
  case atStart => exact ⟨0, rfl, by omega, Lib.hid ⟨Below.refl _ _, fun j _ hj => by omega⟩⟩
  case round =>
    obtain ⟨s, rfl, hs, HI⟩ := hrel
    by_cases hlt : s < n
    · have hsx : s < ps.length := by rw [HN.out]; exact hlt
      obtain ⟨b, off, hx, hbl, c0, c1, c2⟩ := (HX.out.below HI.out.1) s hsx
      have q1 : (0 : Int) ≤ s := by omega
      have q2 : (s : Int) < n := by omega
      have HS := Lib.hid hsx
      have HC : Hid (Calls Tryz.prog g (#[pV ps[s]] ++ lb) wr fun e w' => e = .returned (.bool (f ps[s])) ∧ w' = wr.alloc (pO ps[s])) := Lib.hid (HP.out wr ps[s] HI.out.1)
      have HB := Lib.hid (fun o => HI.out.1.alloc HI.out.1.size o)
      have HQ : Hid (∀ j (hj : j < ps.length), j = s → f ps[j] = f ps[s]) := Lib.hid fun j hj e => by subst e; rfl
      generalize ps[s] = q at c0 c1 c2 HC HQ
      clear hsx
      subst hx
      obtain ⟨qt, qk, qv⟩ := q
      unfold pV pO at HC
      dsimp only at c0 c1 c2 HC
      cases hv : f ⟨qt, qk, qv⟩ with
      | true =>
        rw [hv] at HC HQ
        clear hv
        have HE : Hid (idxI f ps = s) := Lib.hid (idx_some HS.out (fun j hj => HI.out.2 j (Nat.lt_trans hj HS.out) hj) (HQ.out s HS.out rfl))
        go_wp2_with (go_at_fn g; refine HC.out.mono ?_; rintro e w2 ⟨rfl, rfl⟩)
        go_ret
        exact ⟨by rw [HE.out]; rfl, HB.out _⟩
      | false =>
        rw [hv] at HC HQ
        clear hv
        go_wp2_with (go_at_fn g; refine HC.out.mono ?_; rintro e w2 ⟨rfl, rfl⟩)
        go_roundw
        case rel => exact ⟨s + 1, by go_num, by omega, Lib.hid ⟨HB.out _, fun j hj hj2 => by
          rcases Nat.lt_or_ge j s with h | h
          · exact HI.out.2 j hj h
          · exact HQ.out j hj (by omega)⟩⟩
        case measure => simp [intOf]; omega
    · have HE : Hid (idxI f ps = -1) := Lib.hid (idx_none fun j hj => HI.out.2 j hj (by have := HN.out; omega))
      have HB := Lib.hid HI.out.1
      go_wp2
      go_ret
      exact ⟨by rw [HE.out]; rfl, HB.out⟩
theorem idx_ge (f : PairV → Bool) (ps : List PairV) : decide (0 ≤ idxI f ps) = ps.any f := by
  unfold idxI
  cases h : ps.any f
  · rfl
  · simp
theorem contains_any (ps : List PairV) (x : Option Addr) (n c : Nat) (g : FuncId) (lb : Array Value) (f : PairV → Bool) (w : World) (h : PrsAt w x ps) (hn : ps.length = n) (hl : n ≤ 2147483647)
    (eg : ∀ args w, (callFunc g args).run Tryz.prog w = .ok (.enter g args) w) (hp : PredP g lb f w) :
    Calls Tryz.prog 107 #[.slice x n c, .func (.func g) #[] lb] w fun e w' => e = .returned (.bool (ps.any f)) ∧ Below w.heap.size w w' := by
  have HI := Lib.hid (index_any ps x n c g lb f w h hn hl eg hp)
  rw [← idx_ge]
  clear h hn hl eg hp
  generalize idxI f ps = i at *
  go_enter Tryz.func107, Tryz.ntmps107
  go_wp2_with (go_at_call 105; refine HI.out.mono ?_; rintro e w2 ⟨rfl, hb⟩; have HB := Lib.hid hb; clear hb)
  go_ret
  exact ⟨rfl, HB.out⟩
theorem pfind_any (ps : List PairV) (x : Option Addr) (n c : Nat) (t k : ByteArray) (w : World) (h : PrsAt w x ps) (hn : ps.length = n) (hl : n ≤ 2147483647) :
    Calls Tryz.prog 79 #[.slice x n c, .string t, .string k] w fun e w' => e = .returned (.int .i64 (findI ps t k)) ∧ Below w.heap.size w w' := by
  have hbx : ∀ o o', Below w.heap.size w ((w.alloc o).alloc o') := fun o o' => below_two w o o'
  have eg : ∀ args w, (callFunc 106 args).run Tryz.prog w = .ok (.enter 106 args) w := enters_of Tryz.func106 (by kernel_rfl) rfl
  have HI : Hid (∀ t1 t2, Calls Tryz.prog 105 #[.slice x n c, .func (.func 106) #[] #[.pointer (some ⟨w.heap.size, 0, none⟩), .pointer (some ⟨w.heap.size + 1, 0, none⟩)]] ((w.alloc (.cells #[.string t] t1)).alloc (.cells #[.string k] t2)) fun e w' => e = .returned (.int .i64 (findI ps t k)) ∧ Below w.heap.size w w') := Lib.hid fun t1 t2 => by
    have hW := hbx (.cells #[.string t] t1) (.cells #[.string k] t2)
    have e1 : (w.alloc (.cells #[.string t] t1)).heap.size = w.heap.size + 1 := by simp
    have c1 : ((w.alloc (.cells #[.string t] t1)).alloc (.cells #[.string k] t2)).cell? ⟨w.heap.size, 0, none⟩ = some (.string t) := Lib.cell?_alloc_some _ (by rw [cell_of_row _ _ 0 _ _ _ (heap_alloc_new w _)]; rfl)
    have c2 : ((w.alloc (.cells #[.string t] t1)).alloc (.cells #[.string k] t2)).cell? ⟨w.heap.size + 1, 0, none⟩ = some (.string k) := by
      have := heap_alloc_new (w.alloc (.cells #[.string t] t1)) (.cells #[.string k] t2)
      rw [e1] at this
      rw [cell_of_row _ _ 0 _ _ _ this]; rfl
    refine (index_any ps x n c _ _ (isP t k) _ (h.below hW) hn hl eg fun W p hb => ?_).mono fun e w' ⟨h1, h2⟩ => ⟨h1, hW.trans (h2.mono hW.size)⟩
    have hlt : w.heap.size + 1 < ((w.alloc (.cells #[.string t] t1)).alloc (.cells #[.string k] t2)).heap.size := by simp
    exact findP_any p t k W _ _ (by rw [hb.cell (p := ⟨w.heap.size, 0, none⟩) (by show w.heap.size < _; omega)]; exact c1) (by rw [hb.cell (p := ⟨w.heap.size + 1, 0, none⟩) hlt]; exact c2)
  clear h hn hl eg hbx
  generalize findI ps t k = i at *
  go_enter Tryz.func79, Tryz.ntmps79
  go_wp2_with (go_at_call 105; refine (HI.out _ _).mono ?_; rintro e w2 ⟨rfl, hb⟩; have HB := Lib.hid hb; clear hb)
  go_ret
  exact ⟨rfl, HB.out⟩
theorem phas_any (ps : List PairV) (x : Option Addr) (n c : Nat) (t : ByteArray) (w : World) (h : PrsAt w x ps) (hn : ps.length = n) (hl : n ≤ 2147483647) :
    Calls Tryz.prog 82 #[.slice x n c, .string t] w fun e w' => e = .returned (.bool (anyT ps t)) ∧ Below w.heap.size w w' := by
  have eg : ∀ args w, (callFunc 108 args).run Tryz.prog w = .ok (.enter 108 args) w := enters_of Tryz.func108 (by kernel_rfl) rfl
  have HI : Hid (∀ t1, Calls Tryz.prog 107 #[.slice x n c, .func (.func 108) #[] #[.pointer (some ⟨w.heap.size, 0, none⟩)]] (w.alloc (.cells #[.string t] t1)) fun e w' => e = .returned (.bool (anyT ps t)) ∧ Below w.heap.size w w') := Lib.hid fun t1 => by
    have hW := below_one w (.cells #[.string t] t1)
    have c1 : (w.alloc (.cells #[.string t] t1)).cell? ⟨w.heap.size, 0, none⟩ = some (.string t) := by rw [cell_of_row _ _ 0 _ _ _ (heap_alloc_new w _)]; rfl
    refine (contains_any ps x n c _ _ (inT t) _ (h.below hW) hn hl eg fun W p hb => ?_).mono fun e w' ⟨h1, h2⟩ => ⟨h1, hW.trans (h2.mono hW.size)⟩
    exact hasP_any p t W _ (by rw [hb.cell (p := ⟨w.heap.size, 0, none⟩) (by simp)]; exact c1)
  clear h hn hl eg
  generalize anyT ps t = i at *
  go_enter Tryz.func82, Tryz.ntmps82
  go_wp2_with (go_at_call 107; refine (HI.out _).mono ?_; rintro e w2 ⟨rfl, hb⟩; have HB := Lib.hid hb; clear hb)
  go_ret
  exact ⟨rfl, HB.out⟩
end Go.Proofs.YticcdighfojjjaaGreatDoor
