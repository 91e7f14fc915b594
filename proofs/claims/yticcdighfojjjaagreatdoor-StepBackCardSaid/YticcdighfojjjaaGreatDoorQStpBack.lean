/-
  StpBack.
-/
import Derived.Test.YticcdighfojjjaaGreatDoorQStpDoes
namespace Go.Proofs.YticcdighfojjjaaGreatDoor

theorem wordA_pos {s : ByteArray} (h : wordA s = true) : s.size ≠ 0 := by
  unfold wordA at h
  have hl := data_len s
  intro h0
  rw [wordB_long (.inl (by omega))] at h; cases h
theorem noneA_iff {s : ByteArray} : noneA s = true ↔ s = emB := by
  unfold noneA
  rw [decide_eq_true_iff]
  constructor
  · intro h
    have hl := data_len s
    have : s.data.toList = [] := List.eq_nil_of_length_eq_zero (by omega)
    rw [← mkB_self s, this]; rfl
  · rintro rfl; rfl
theorem apply_ok {l : List PairV} {s : StepV} (h : (applyP l s).2 = 0) : pairsB l = true ∧ rightS s = true ∧ (doesP l s).2 = 0 ∧ (doesP l s).1.length ≤ 500 ∧ applyP l s = ((doesP l s).1, 0) := by
  unfold applyP at h ⊢
  split at h
  · cases h
  split at h
  · cases h
  split at h
  · rename_i h3; exact absurd h h3
  split at h
  · cases h
  · rename_i h1 h2 h3 h4
    refine ⟨by simpa using h1, by simpa using h2, Decidable.not_not.1 h3, by omega, ?_⟩
    rw [if_neg h1, if_neg h2, if_neg h3, if_neg h4]
theorem apply_of {l : List PairV} {s : StepV} (h1 : pairsB l = true) (h2 : rightS s = true) (h3 : (doesP l s).2 = 0) (h4 : (doesP l s).1.length ≤ 500) : applyP l s = ((doesP l s).1, 0) := by
  unfold applyP; rw [if_neg (by simp [h1]), if_neg (by simp [h2]), if_neg (by simp [h3]), if_neg (by omega)]
theorem apply_err {l : List PairV} {s : StepV} (h : (applyP l s).2 ≠ 0) : (applyP l s).1 = [] := by
  unfold applyP at h ⊢
  split
  · rfl
  split
  · rfl
  split
  · rfl
  split
  · rfl
  · rename_i h1 h2 h3 h4
    rw [if_neg h1, if_neg h2, if_neg h3, if_neg h4] at h
    exact absurd rfl h

/-! The table under another name -/
theorem fold_mem {x : PairV} : ∀ (ms rest : List PairV), x ∈ ms.foldl insP rest ↔ x ∈ rest ∨ x ∈ ms
  | [], rest => by simp
  | m :: ms, rest => by
    rw [List.foldl_cons, fold_mem ms, mem_ins, List.mem_cons]
    constructor
    · rintro ((h | h) | h)
      · exact .inr (.inl h)
      · exact .inl h
      · exact .inr (.inr h)
    · rintro (h | h | h)
      · exact .inl (.inr h)
      · exact .inl (.inl h)
      · exact .inr h
theorem fold_len : ∀ (ms rest : List PairV), (ms.foldl insP rest).length = rest.length + ms.length
  | [], rest => by simp
  | m :: ms, rest => by rw [List.foldl_cons, fold_len ms, ins_len, List.length_cons]; omega
def apartP (p q : PairV) : Prop := ¬ (p.table = q.table ∧ p.key = q.key)
theorem fold_rise : ∀ (ms rest : List PairV), Rise rest → ms.Pairwise apartP → (∀ m ∈ ms, ∀ q ∈ rest, apartP q m) → Rise (ms.foldl insP rest)
  | [], _, h, _, _ => h
  | m :: ms, rest, h, hp, hm => by
    rw [List.foldl_cons]
    have hp' := List.pairwise_cons.1 hp
    refine fold_rise ms _ (rise_ins h fun q hq => hm m (by simp) q hq) hp'.2 fun a ha q hq => ?_
    rcases mem_ins.1 hq with rfl | hq
    · exact hp'.1 a ha
    · exact hm a (List.mem_cons_of_mem _ ha) q hq
theorem inT_iff {t : ByteArray} {q : PairV} : inT t q = true ↔ q.table = t := eqB_iff
theorem drop_len {l : List PairV} {t : ByteArray} : (dropP l t emB).length = l.length ↔ ∀ q ∈ l, q.table ≠ t := by
  unfold dropP
  rw [List.length_filter_eq_length_iff]
  exact ⟨fun h q hq => keepP_all.1 (h q hq), fun h q hq => keepP_all.2 (h q hq)⟩
theorem drop_less {l : List PairV} {t : ByteArray} : ¬ (dropP l t emB).length < l.length ↔ ∀ q ∈ l, q.table ≠ t := by
  rw [← drop_len]
  have : (dropP l t emB).length ≤ l.length := List.length_filter_le _ _
  omega
theorem part_len (l : List PairV) (f : PairV → Bool) : (l.filter f).length + (l.filter fun q => !f q).length = l.length := by
  induction l with
  | nil => rfl
  | cons q l ih =>
    simp only [List.filter_cons]
    cases f q
    · simp; omega
    · simp; omega
def movedP (l : List PairV) (t to : ByteArray) : List PairV := (l.filter (inT t)).map (toT to)
theorem mem_moved {l : List PairV} {t to : ByteArray} {x : PairV} : x ∈ movedP l t to ↔ ∃ q ∈ l, q.table = t ∧ toT to q = x := by
  unfold movedP
  rw [List.mem_map]
  constructor
  · rintro ⟨q, h, rfl⟩
    obtain ⟨h1, h2⟩ := List.mem_filter.1 h
    exact ⟨q, h1, inT_iff.1 h2, rfl⟩
  · rintro ⟨q, h1, h2, rfl⟩
    exact ⟨q, List.mem_filter.2 ⟨h1, inT_iff.2 h2⟩, rfl⟩
theorem mem_drop_all {l : List PairV} {t : ByteArray} {x : PairV} : x ∈ dropP l t emB ↔ x ∈ l ∧ x.table ≠ t := by
  unfold dropP; rw [List.mem_filter, keepP_all]
theorem mem_drop {l : List PairV} {t k : ByteArray} (hk : k.size ≠ 0) {x : PairV} : x ∈ dropP l t k ↔ x ∈ l ∧ ¬ (x.table = t ∧ x.key = k) := by
  unfold dropP; rw [List.mem_filter, keepP_no hk]
theorem moved_apart {l : List PairV} {t to : ByteArray} (h : Rise l) : (movedP l t to).Pairwise apartP := by
  unfold movedP
  rw [List.pairwise_map]
  have h2 : (l.filter (inT t)).Pairwise fun p q => lessP p q = true := rise_filter _ h
  refine List.Pairwise.imp_of_mem ?_ h2
  intro a b ha hb hab he
  have ta := inT_iff.1 (List.mem_filter.1 ha).2
  have tb := inT_iff.1 (List.mem_filter.1 hb).2
  have := lessP_key (p := a) (q := b) (r := a) (tb.trans ta.symm) he.2.symm
  rw [this, lessP_irrefl] at hab; cases hab
theorem tab_rise {l : List PairV} {t to : ByteArray} (h : Rise l) (hn : ∀ q ∈ l, q.table ≠ to) : Rise ((movedP l t to).foldl insP (dropP l t emB)) := by
  refine fold_rise _ _ (rise_filter _ h) (moved_apart h) fun m hm q hq => ?_
  obtain ⟨q2, _, _, rfl⟩ := mem_moved.1 hm
  exact fun he => hn q (mem_drop_all.1 hq).1 he.1
theorem mem_tab {l : List PairV} {t to : ByteArray} {x : PairV} : x ∈ (movedP l t to).foldl insP (dropP l t emB) ↔ (x ∈ l ∧ x.table ≠ t) ∨ ∃ q ∈ l, q.table = t ∧ toT to q = x := by
  rw [fold_mem, mem_drop_all, mem_moved]
theorem tab_len {l : List PairV} {t to : ByteArray} : ((movedP l t to).foldl insP (dropP l t emB)).length = l.length := by
  rw [fold_len]
  unfold movedP dropP
  rw [List.length_map, Nat.add_comm]
  have := part_len l (inT t)
  have e : (l.filter fun q => !inT t q) = l.filter (keepP t emB) := List.filter_congr fun q _ => by
    cases e1 : keepP t emB q
    · have : q.table = t := by
        refine Decidable.byContradiction fun hne => ?_
        rw [keepP_all.2 hne] at e1; cases e1
      rw [inT_iff.2 this]; rfl
    · have := keepP_all.1 e1
      cases e2 : inT t q
      · rfl
      · exact absurd (inT_iff.1 e2) this
  rw [← e]; exact this

/-! Values, each as a function makes it -/
def mapV (f t : ByteArray) (q : PairV) : PairV := if eqB q.table t then ⟨q.table, q.key, (callV f q.value).1⟩ else q
theorem mapV_key (f t : ByteArray) (q : PairV) : (mapV f t q).table = q.table ∧ (mapV f t q).key = q.key := by unfold mapV; split <;> exact ⟨rfl, rfl⟩
theorem map_ok (f t : ByteArray) : ∀ l : List PairV, (mapP f t l).2 = 0 → (mapP f t l).1 = l.map (mapV f t) ∧ ∀ q ∈ l, q.table = t → (callV f q.value).2 = 0
  | [], _ => ⟨rfl, fun _ h => by cases h⟩
  | q :: r, h => by
    unfold mapP at h ⊢
    rw [List.map_cons]
    unfold mapV
    split at h
    · rename_i h1
      split at h
      · rename_i h2
        split at h
        · rename_i h3
          obtain ⟨i1, i2⟩ := map_ok f t r h3
          rw [if_pos h1, if_pos h2, if_pos h3, if_pos h1]
          refine ⟨by rw [i1]; rfl, fun x hx hxt => ?_⟩
          rcases List.mem_cons.1 hx with rfl | hx
          · exact h2
          · exact i2 x hx hxt
        · rename_i h3; exact absurd h h3
      · rename_i h2; exact absurd h h2
    · rename_i h1
      split at h
      · rename_i h3
        obtain ⟨i1, i2⟩ := map_ok f t r h3
        rw [if_neg h1, if_pos h3, if_neg h1]
        refine ⟨by rw [i1]; rfl, fun x hx hxt => ?_⟩
        rcases List.mem_cons.1 hx with rfl | hx
        · exact absurd (eqB_iff.2 hxt) h1
        · exact i2 x hx hxt
      · rename_i h3; exact absurd h h3
theorem map_of (f t : ByteArray) : ∀ l : List PairV, (∀ q ∈ l, q.table = t → (callV f q.value).2 = 0) → mapP f t l = (l.map (mapV f t), 0)
  | [], _ => rfl
  | q :: r, h => by
    have ih := map_of f t r fun x hx => h x (List.mem_cons_of_mem _ hx)
    unfold mapP
    rw [List.map_cons]
    unfold mapV
    by_cases h1 : eqB q.table t = true
    · rw [if_pos h1, if_pos h1, if_pos (h q (by simp) (eqB_iff.1 h1)), ih]; rfl
    · rw [if_neg h1, if_neg h1, ih]; rfl
theorem map_rise {f t : ByteArray} {l : List PairV} (h : Rise l) : Rise (l.map (mapV f t)) := by
  unfold Rise at h ⊢
  rw [List.pairwise_map]
  refine List.Pairwise.imp ?_ h
  intro a b hab
  rw [lessP_key (mapV_key f t b).1 (mapV_key f t b).2, lessP_key' (mapV_key f t a).1 (mapV_key f t a).2]; exact hab

/-! What comes out are pairs -/
theorem okP_iff {p : PairV} : okP p = true ↔ wordA p.table = true ∧ wordA p.key = true ∧ p.value.size ≤ 200 := by
  unfold okP wordA; rw [Bool.and_eq_true, Bool.and_eq_true, decide_eq_true_iff, and_assoc]
theorem right_parts {s : StepV} (h : rightS s = true) : wordA s.table = true ∧
    (s.kind = 1 → wordA s.key = true ∧ s.text.size ≤ 200) ∧ (s.kind = 3 ∨ s.kind = 6 → wordA s.key = true ∧ wordA s.to = true) ∧ (s.kind = 4 → wordA s.to = true) ∧ (s.kind = 5 → knownB s.text = true) := by
  unfold rightS at h
  rw [Bool.and_eq_true] at h
  refine ⟨h.1, fun k => ?_, fun k => ?_, fun k => ?_, fun k => ?_⟩
  · have h2 := h.2
    rw [if_pos k] at h2
    simp only [Bool.and_eq_true, decide_eq_true_eq] at h2
    exact ⟨h2.1, h2.2.2⟩
  · have h2 := h.2
    rw [if_neg (by omega), if_neg (by omega), if_pos k] at h2
    simp only [Bool.and_eq_true] at h2
    exact ⟨h2.1, h2.2.1⟩
  · have h2 := h.2
    rw [if_neg (by omega), if_neg (by omega), if_neg (by omega), if_pos k] at h2
    simp only [Bool.and_eq_true] at h2
    exact h2.2.1
  · have h2 := h.2
    rw [if_neg (by omega), if_neg (by omega), if_neg (by omega), if_neg (by omega), if_pos k] at h2
    simp only [Bool.and_eq_true] at h2
    exact h2.2.2
theorem right_kind {s : StepV} (h : rightS s = true) : s.kind = 1 ∨ s.kind = 2 ∨ s.kind = 4 ∨ s.kind = 5 ∨ (s.kind = 3 ∨ s.kind = 6) := by
  unfold rightS at h
  rw [Bool.and_eq_true] at h
  have h2 := h.2
  by_cases k1 : s.kind = 1
  · exact .inl k1
  by_cases k2 : s.kind = 2
  · exact .inr (.inl k2)
  by_cases k3 : s.kind = 3 ∨ s.kind = 6
  · exact .inr (.inr (.inr (.inr k3)))
  by_cases k4 : s.kind = 4
  · exact .inr (.inr (.inl k4))
  by_cases k5 : s.kind = 5
  · exact .inr (.inr (.inr (.inl k5)))
  rw [if_neg k1, if_neg k2, if_neg k3, if_neg k4, if_neg k5] at h2; cases h2
theorem does1 {l : List PairV} {s : StepV} (k : s.kind = 1) : doesP l s = if hasP l s.table s.key then ([], 161) else (insP l ⟨s.table, s.key, s.text⟩, 0) := by unfold doesP; rw [if_pos k]
theorem does2 {l : List PairV} {s : StepV} (k : s.kind = 2) : doesP l s = (dropP l s.table s.key, 0) := by unfold doesP; rw [if_neg (by omega), if_pos k]
theorem does4 {l : List PairV} {s : StepV} (k : s.kind = 4) : doesP l s = tabP l s := by unfold doesP; rw [if_neg (by omega), if_neg (by omega), if_pos k]
theorem does5 {l : List PairV} {s : StepV} (k : s.kind = 5) : doesP l s = mapP s.text s.table l := by unfold doesP; rw [if_neg (by omega), if_neg (by omega), if_neg (by omega), if_pos k]
theorem does3 {l : List PairV} {s : StepV} (k : s.kind = 3 ∨ s.kind = 6) : doesP l s = movP l s := by unfold doesP; rw [if_neg (by omega), if_neg (by omega), if_neg (by omega), if_neg (by omega)]
theorem pos_pair {l : List PairV} {t k : ByteArray} (h : hasP l t k = true) : ∃ (hp : posP l t k < l.length), l[posP l t k] ∈ l ∧ l[posP l t k].table = t ∧ l[posP l t k].key = k := by
  have hp := posP_lt.2 h
  have := isP_iff.1 (posP_at hp)
  exact ⟨hp, List.getElem_mem hp, this.1, this.2⟩
/-- StepTable, as it goes. -/
theorem tab_cases (l : List PairV) (s : StepV) : ((∀ q ∈ l, q.table ≠ s.table) ∧ tabP l s = (l, 0)) ∨ ((∃ q ∈ l, q.table = s.table) ∧ (∃ q ∈ l, q.table = s.to) ∧ tabP l s = ([], 161)) ∨
    ((∃ q ∈ l, q.table = s.table) ∧ (∀ q ∈ l, q.table ≠ s.to) ∧ tabP l s = ((movedP l s.table s.to).foldl insP (dropP l s.table emB), 0)) := by
  unfold tabP
  by_cases h1 : (dropP l s.table emB).length = l.length
  · exact .inl ⟨drop_len.1 h1, by rw [if_pos h1]⟩
  · have e1 : ∃ q ∈ l, q.table = s.table := by
      refine Classical.byContradiction fun hn => h1 (drop_len.2 fun q hq he => hn ⟨q, hq, he⟩)
    by_cases h2 : (dropP l s.to emB).length < l.length
    · refine .inr (.inl ⟨e1, ?_, by rw [if_neg h1, if_pos h2]⟩)
      refine Classical.byContradiction fun hn => drop_less.2 (fun q hq he => hn ⟨q, hq, he⟩) h2
    · exact .inr (.inr ⟨e1, drop_less.1 h2, by rw [if_neg h1, if_neg h2]; rfl⟩)
/-- StepRename and StepCopy, as they go. -/
theorem mov_cases (l : List PairV) (s : StepV) : (hasP l s.table s.key = false ∧ movP l s = (l, 0)) ∨ (hasP l s.table s.key = true ∧ hasP l s.table s.to = true ∧ movP l s = ([], 161)) ∨
    (hasP l s.table s.to = false ∧ ∃ q ∈ l, q.table = s.table ∧ q.key = s.key ∧ movP l s = (insP (if s.kind = 3 then dropP l s.table s.key else l) ⟨s.table, s.to, q.value⟩, 0)) := by
  unfold movP
  cases h : hasP l s.table s.key with
  | false =>
    refine .inl ⟨rfl, ?_⟩
    rw [dif_neg (fun hp => by rw [posP_lt.1 hp] at h; cases h)]
  | true =>
    obtain ⟨hp, h1, h2, h3⟩ := pos_pair h
    rw [dif_pos hp]
    cases h4 : hasP l s.table s.to with
    | true => exact .inr (.inl ⟨rfl, rfl, by rw [if_pos rfl]⟩)
    | false => exact .inr (.inr ⟨rfl, _, h1, h2, h3, by rw [if_neg (by simp)]⟩)
theorem does_out {l : List PairV} {s : StepV} (hl : pairsB l = true) (hr : rightS s = true) (h : (doesP l s).2 = 0) : (∀ p ∈ (doesP l s).1, okP p = true) ∧ Rise (doesP l s).1 := by
  obtain ⟨_, hok, hri⟩ := pairsB_iff.1 hl
  obtain ⟨r0, r1, r3, r4, r5⟩ := right_parts hr
  rcases right_kind hr with k | k | k | k | k
  · rw [does1 k] at h ⊢
    split at h
    · cases h
    · rename_i h1
      rw [if_neg h1]
      refine ⟨fun p hp => ?_, rise_ins hri (hasP_no (by simpa using h1))⟩
      rcases mem_ins.1 hp with rfl | hp
      · exact okP_iff.2 ⟨r0, (r1 k).1, (r1 k).2⟩
      · exact hok p hp
  · rw [does2 k]
    exact ⟨fun p hp => hok p (List.mem_filter.1 hp).1, rise_filter _ hri⟩
  · rw [does4 k] at h ⊢
    rcases tab_cases l s with ⟨_, e⟩ | ⟨_, _, e⟩ | ⟨_, h2, e⟩
    · rw [e]; exact ⟨hok, hri⟩
    · rw [e] at h; cases h
    · rw [e]
      refine ⟨fun p hp => ?_, tab_rise hri h2⟩
      rcases mem_tab.1 hp with ⟨hp, _⟩ | ⟨q, hq, _, rfl⟩
      · exact hok p hp
      · have := okP_iff.1 (hok q hq)
        exact okP_iff.2 ⟨r4 k, this.2.1, this.2.2⟩
  · rw [does5 k] at h ⊢
    obtain ⟨e, hc⟩ := map_ok _ _ _ h
    rw [e]
    refine ⟨fun p hp => ?_, map_rise hri⟩
    obtain ⟨q, hq, rfl⟩ := List.mem_map.1 hp
    have := okP_iff.1 (hok q hq)
    unfold mapV
    split
    · rename_i h1
      exact okP_iff.2 ⟨this.1, this.2.1, call_size (hc q hq (eqB_iff.1 h1))⟩
    · exact hok q hq
  · rw [does3 k] at h ⊢
    rcases mov_cases l s with ⟨_, e⟩ | ⟨_, _, e⟩ | ⟨h2, q, hq, _, _, e⟩
    · rw [e]; exact ⟨hok, hri⟩
    · rw [e] at h; cases h
    · rw [e]
      have hno := hasP_no h2
      refine ⟨fun p hp => ?_, ?_⟩
      · rcases mem_ins.1 hp with rfl | hp
        · exact okP_iff.2 ⟨r0, (r3 k).2, (okP_iff.1 (hok q hq)).2.2⟩
        · refine hok p ?_
          split at hp
          · exact (List.mem_filter.1 hp).1
          · exact hp
      · refine rise_ins ?_ fun p hp => hno p ?_
        · split
          · exact rise_filter _ hri
          · exact hri
        · split at hp
          · exact (List.mem_filter.1 hp).1
          · exact hp
/-- What Apply tells are pairs. -/
theorem apply_out {l : List PairV} {s : StepV} (h : (applyP l s).2 = 0) : pairsB (applyP l s).1 = true := by
  obtain ⟨h1, h2, h3, h4, h5⟩ := apply_ok h
  rw [h5]
  exact pairsB_iff.2 ⟨h4, does_out h1 h2 h3⟩

/-! What leads back -/
theorem back_put {l : List PairV} {t k x : ByteArray} (h : (applyP l ⟨1, t, k, emB, x⟩).2 = 0) : applyP (applyP l ⟨1, t, k, emB, x⟩).1 ⟨2, t, k, emB, emB⟩ = (l, 0) ∧ (applyP l ⟨1, t, k, emB, x⟩).1.length = l.length + 1 := by
  have ho := apply_out h
  obtain ⟨h1, h2, h3, h4, h5⟩ := apply_ok h
  rw [h5] at ho ⊢
  obtain ⟨r0, r1, _⟩ := right_parts h2
  obtain ⟨hl, _, hri⟩ := pairsB_iff.1 h1
  have hk := wordA_pos (r1 rfl).1
  rw [does1 rfl] at h3 ho ⊢
  split at h3
  · cases h3
  · rename_i hn
    rw [if_neg hn] at ho ⊢
    have hno := hasP_no (by simpa using hn)
    have e : doesP (insP l ⟨t, k, x⟩) ⟨2, t, k, emB, emB⟩ = (l, 0) := by
      rw [does2 rfl]
      congr 1
      refine rise_ext (rise_filter _ (pairsB_iff.1 ho).2.2) hri fun y => ?_
      rw [mem_drop hk, mem_ins]
      constructor
      · rintro ⟨rfl | hy, hn⟩
        · exact absurd ⟨rfl, rfl⟩ hn
        · exact hy
      · exact fun hy => ⟨.inr hy, hno y hy⟩
    refine ⟨?_, ins_len _ _⟩
    rw [apply_of ho ?_ (by rw [e]) (by rw [e]; exact hl), e]
    unfold rightS
    dsimp only
    rw [if_neg (by decide), if_pos rfl, r0, (r1 rfl).1]; rfl
theorem back_ren {l : List PairV} {t k to : ByteArray} (h : (applyP l ⟨3, t, k, to, emB⟩).2 = 0) : (applyP l ⟨3, t, k, to, emB⟩).1.length = l.length ∧
    ((applyP l ⟨3, t, k, to, emB⟩).1 = l ∨ applyP (applyP l ⟨3, t, k, to, emB⟩).1 ⟨3, t, to, k, emB⟩ = (l, 0)) := by
  have ho := apply_out h
  obtain ⟨h1, h2, h3, h4, h5⟩ := apply_ok h
  rw [h5] at ho ⊢
  obtain ⟨r0, _, r3, _⟩ := right_parts h2
  obtain ⟨hl, _, hri⟩ := pairsB_iff.1 h1
  have hk := wordA_pos (r3 (.inl rfl)).1
  have hto := wordA_pos (r3 (.inl rfl)).2
  rw [does3 (.inl rfl)] at h3 ho ⊢
  rcases mov_cases l ⟨3, t, k, to, emB⟩ with ⟨_, e⟩ | ⟨_, _, e⟩ | ⟨hno, q, hq, qt, qk, e⟩
  · rw [e]; exact ⟨rfl, .inl rfl⟩
  · rw [e] at h3; cases h3
  · rw [e] at ho ⊢
    rw [if_pos rfl] at ho ⊢
    dsimp only at hno qt qk ho ⊢
    have hno' := hasP_no hno
    have hne : to ≠ k := fun e => hno' q hq ⟨qt, qk.trans e.symm⟩
    have hA := (pairsB_iff.1 ho).2.2
    have mA : ∀ y, y ∈ insP (dropP l t k) ⟨t, to, q.value⟩ ↔ y = ⟨t, to, q.value⟩ ∨ (y ∈ l ∧ ¬ (y.table = t ∧ y.key = k)) := fun y => by rw [mem_ins, mem_drop hk]
    have eq : q = ⟨t, k, q.value⟩ := by cases q; simp only at qt qk; subst qt qk; rfl
    have back : insP (dropP l t k) q = l := by
      refine rise_ext (rise_ins (rise_filter _ hri) fun p hp hpk => (mem_drop hk |>.1 hp).2 ⟨hpk.1.trans qt, hpk.2.trans qk⟩) hri fun y => ?_
      rw [mem_ins, mem_drop hk]
      constructor
      · rintro (rfl | ⟨hy, _⟩)
        · exact hq
        · exact hy
      · intro hy
        by_cases hyk : y.table = t ∧ y.key = k
        · exact .inl (rise_one hri hy hq (hyk.1.trans qt.symm) (hyk.2.trans qk.symm))
        · exact .inr ⟨hy, hyk⟩
    have hlen : (insP (dropP l t k) ⟨t, to, q.value⟩).length = l.length := by
      rw [ins_len]
      have := congrArg List.length back
      rw [ins_len] at this; exact this
    refine ⟨hlen, .inr ?_⟩
    have e2 : doesP (insP (dropP l t k) ⟨t, to, q.value⟩) ⟨3, t, to, k, emB⟩ = (l, 0) := by
      rw [does3 (.inl rfl)]
      rcases mov_cases (insP (dropP l t k) ⟨t, to, q.value⟩) ⟨3, t, to, k, emB⟩ with ⟨hx, _⟩ | ⟨_, hx, _⟩ | ⟨_, p, hp, pt, pk, e3⟩
      · exact absurd (hasP_no hx _ ((mA _).2 (.inl rfl))) (fun hn => hn ⟨rfl, rfl⟩)
      · obtain ⟨y, hy, yt, yk⟩ := hasP_iff.1 hx
        dsimp only at yt yk
        rcases (mA y).1 hy with rfl | ⟨_, hn⟩
        · exact absurd yk hne
        · exact absurd ⟨yt, yk⟩ hn
      · rw [e3, if_pos rfl]
        dsimp only at pt pk ⊢
        have pe : p = ⟨t, to, q.value⟩ := rise_one hA hp ((mA _).2 (.inl rfl)) pt pk
        subst pe
        congr 1
        refine rise_ext (rise_ins (rise_filter _ hA) fun y hy hyk => ?_) hri fun y => ?_
        · dsimp only at hyk
          rcases (mA y).1 (mem_drop hto |>.1 hy).1 with rfl | ⟨_, hn⟩
          · exact hne hyk.2
          · exact hn hyk
        · rw [mem_ins, mem_drop hto, mA]
          dsimp only
          rw [← eq]
          constructor
          · rintro (rfl | ⟨rfl | ⟨hy, _⟩, hn⟩)
            · exact hq
            · exact absurd ⟨rfl, rfl⟩ hn
            · exact hy
          · intro hy
            by_cases hyk : y.table = t ∧ y.key = k
            · exact .inl (rise_one hri hy hq (hyk.1.trans qt.symm) (hyk.2.trans qk.symm))
            · exact .inr ⟨.inr ⟨hy, hyk⟩, hno' y hy⟩
    rw [apply_of ho ?_ (by rw [e2]) (by rw [e2]; exact hl), e2]
    unfold rightS
    dsimp only
    rw [if_neg (by decide), if_neg (by decide), if_pos (by decide), r0, (r3 (.inl rfl)).1, (r3 (.inl rfl)).2]; rfl
theorem back_tab {l : List PairV} {t to : ByteArray} (h : (applyP l ⟨4, t, emB, to, emB⟩).2 = 0) : (applyP l ⟨4, t, emB, to, emB⟩).1.length = l.length ∧
    ((applyP l ⟨4, t, emB, to, emB⟩).1 = l ∨ applyP (applyP l ⟨4, t, emB, to, emB⟩).1 ⟨4, to, emB, t, emB⟩ = (l, 0)) := by
  have ho := apply_out h
  obtain ⟨h1, h2, h3, h4, h5⟩ := apply_ok h
  rw [h5] at ho ⊢
  obtain ⟨r0, _, _, r4, _⟩ := right_parts h2
  obtain ⟨hl, _, hri⟩ := pairsB_iff.1 h1
  rw [does4 rfl] at h3 ho ⊢
  rcases tab_cases l ⟨4, t, emB, to, emB⟩ with ⟨_, e⟩ | ⟨_, _, e⟩ | ⟨⟨q0, hq0, q0t⟩, hn, e⟩
  · rw [e]; exact ⟨rfl, .inl rfl⟩
  · rw [e] at h3; cases h3
  · rw [e] at ho ⊢
    dsimp only at q0t hn ho ⊢
    refine ⟨tab_len, .inr ?_⟩
    have hA := (pairsB_iff.1 ho).2.2
    have hne : t ≠ to := fun e => hn q0 hq0 (q0t.trans e)
    have e2 : doesP ((movedP l t to).foldl insP (dropP l t emB)) ⟨4, to, emB, t, emB⟩ = (l, 0) := by
      rw [does4 rfl]
      rcases tab_cases ((movedP l t to).foldl insP (dropP l t emB)) ⟨4, to, emB, t, emB⟩ with ⟨hx, _⟩ | ⟨_, ⟨y, hy, yt⟩, _⟩ | ⟨_, _, e3⟩
      · exact absurd rfl (hx (toT to q0) (mem_tab.2 (.inr ⟨q0, hq0, q0t, rfl⟩)))
      · dsimp only at yt
        rcases mem_tab.1 hy with ⟨_, hyt⟩ | ⟨q, _, _, rfl⟩
        · exact absurd yt hyt
        · exact absurd yt.symm hne
      · rw [e3]
        dsimp only
        congr 1
        refine rise_ext (tab_rise hA fun y hy yt => ?_) hri fun y => ?_
        · rcases mem_tab.1 hy with ⟨_, hyt⟩ | ⟨q, _, _, rfl⟩
          · exact absurd yt hyt
          · exact absurd yt.symm hne
        · rw [mem_tab]
          constructor
          · rintro (⟨hy, yt⟩ | ⟨p, hp, pt, rfl⟩)
            · rcases mem_tab.1 hy with ⟨hy, _⟩ | ⟨q, _, _, rfl⟩
              · exact hy
              · exact absurd rfl yt
            · rcases mem_tab.1 hp with ⟨hp, _⟩ | ⟨q, hq, qt, rfl⟩
              · exact absurd pt (hn p hp)
              · have : toT t (toT to q) = q := by unfold toT; cases q; simp only at qt; subst qt; rfl
                rw [this]; exact hq
          · intro hy
            by_cases yt : y.table = t
            · refine .inr ⟨toT to y, mem_tab.2 (.inr ⟨y, hy, yt, rfl⟩), rfl, ?_⟩
              unfold toT; cases y; simp only at yt; subst yt; rfl
            · exact .inl ⟨mem_tab.2 (.inl ⟨hy, yt⟩), hn y hy⟩
    rw [apply_of ho ?_ (by rw [e2]) (by rw [e2]; exact hl), e2]
    unfold rightS
    dsimp only
    rw [if_neg (by decide), if_neg (by decide), if_neg (by decide), if_pos rfl, r0, r4 rfl]; rfl
theorem map_apply {l : List PairV} {t f : ByteArray} (h : (applyP l ⟨5, t, emB, emB, f⟩).2 = 0) : (applyP l ⟨5, t, emB, emB, f⟩).1 = l.map (mapV f t) ∧ (∀ q ∈ l, q.table = t → (callV f q.value).2 = 0) ∧ pairsB l = true ∧ rightS ⟨5, t, emB, emB, f⟩ = true := by
  obtain ⟨h1, h2, h3, h4, h5⟩ := apply_ok h
  rw [h5]
  rw [does5 rfl] at h3 ⊢
  obtain ⟨e, hc⟩ := map_ok _ _ _ h3
  exact ⟨e, hc, h1, h2⟩
theorem map_again {l : List PairV} {t f : ByteArray} (h : (applyP l ⟨5, t, emB, emB, f⟩).2 = 0) (hc : ∀ q ∈ l, q.table = t → (callV f (callV f q.value).1).2 = 0) :
    applyP (applyP l ⟨5, t, emB, emB, f⟩).1 ⟨5, t, emB, emB, f⟩ = ((l.map (mapV f t)).map (mapV f t), 0) := by
  have ho := apply_out h
  obtain ⟨e, _, h1, h2⟩ := map_apply h
  rw [e] at ho ⊢
  have e2 : doesP (l.map (mapV f t)) ⟨5, t, emB, emB, f⟩ = ((l.map (mapV f t)).map (mapV f t), 0) := by
    rw [does5 rfl]
    refine map_of f t _ fun p hp pt => ?_
    obtain ⟨q, hq, rfl⟩ := List.mem_map.1 hp
    have qt : q.table = t := (mapV_key f t q).1.symm.trans pt
    unfold mapV
    rw [if_pos (eqB_iff.2 qt)]
    exact hc q hq qt
  rw [apply_of ho h2 (by rw [e2]) (by rw [e2]; have := (pairsB_iff.1 h1).1; simpa using this), e2]
theorem back_once {l : List PairV} {t f : ByteArray} (hf : OnceF f) (h : (applyP l ⟨5, t, emB, emB, f⟩).2 = 0) : applyP (applyP l ⟨5, t, emB, emB, f⟩).1 ⟨5, t, emB, emB, f⟩ = ((applyP l ⟨5, t, emB, emB, f⟩).1, 0) ∧ (applyP l ⟨5, t, emB, emB, f⟩).1.length = l.length := by
  obtain ⟨e, hc, _, _⟩ := map_apply h
  rw [map_again h fun q hq qt => by rw [(call_once hf (hc q hq qt)).1], e, List.length_map]
  refine ⟨?_, rfl⟩
  congr 1
  rw [List.map_map]
  refine List.map_congr_left fun q hq => ?_
  show mapV f t (mapV f t q) = mapV f t q
  unfold mapV
  by_cases h1 : eqB q.table t = true
  · simp only [h1, if_true]
    rw [(call_once hf (hc q hq (eqB_iff.1 h1))).1]
  · simp [h1]
theorem back_rev {l : List PairV} {t : ByteArray} (h : (applyP l ⟨5, t, emB, emB, mkB revN⟩).2 = 0) : applyP (applyP l ⟨5, t, emB, emB, mkB revN⟩).1 ⟨5, t, emB, emB, mkB revN⟩ = (l, 0) := by
  obtain ⟨e, hc, _, _⟩ := map_apply h
  rw [map_again h fun q hq qt => by rw [(call_rev (hc q hq qt)).1]]
  congr 1
  rw [List.map_map]
  conv => rhs; rw [← List.map_id l]
  refine List.map_congr_left fun q hq => ?_
  show mapV (mkB revN) t (mapV (mkB revN) t q) = q
  unfold mapV
  by_cases h1 : eqB q.table t = true
  · simp only [h1, if_true]
    rw [(call_rev (hc q hq (eqB_iff.1 h1))).1]
  · simp [h1]
end Go.Proofs.YticcdighfojjjaaGreatDoor
