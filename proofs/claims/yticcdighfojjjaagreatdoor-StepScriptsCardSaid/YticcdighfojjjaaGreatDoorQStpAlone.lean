/-
  StpAlone.
-/
import Derived.Test.YticcdighfojjjaaGreatDoorQStpBack
namespace Go.Proofs.YticcdighfojjjaaGreatDoor

/-- Does a step speak of a table? -/
def spkB (s : StepV) (t : ByteArray) : Bool := eqB s.table t || (decide (s.kind = 4) && eqB s.to t)
def ownP (s : StepV) (b : Bool) (l : List PairV) : List PairV := l.filter fun q => spkB s q.table == b
theorem spk_iff {s : StepV} {t : ByteArray} : spkB s t = true ↔ t = s.table ∨ (s.kind = 4 ∧ t = s.to) := by
  unfold spkB
  rw [Bool.or_eq_true, Bool.and_eq_true, eqB_iff, eqB_iff, decide_eq_true_iff]
  constructor
  · rintro (h | ⟨h1, h2⟩)
    · exact .inl h.symm
    · exact .inr ⟨h1, h2.symm⟩
  · rintro (h | ⟨h1, h2⟩)
    · exact .inl h.symm
    · exact .inr ⟨h1, h2.symm⟩
theorem mem_own {s : StepV} {l : List PairV} {q : PairV} : q ∈ ownP s true l ↔ q ∈ l ∧ spkB s q.table = true := by
  unfold ownP; rw [List.mem_filter]; simp
theorem mem_not {s : StepV} {l : List PairV} {q : PairV} : q ∈ ownP s false l ↔ q ∈ l ∧ ¬ spkB s q.table = true := by
  unfold ownP; rw [List.mem_filter]; simp
theorem own_pairs {s : StepV} {b : Bool} {l : List PairV} (h : pairsB l = true) : pairsB (ownP s b l) = true := by
  obtain ⟨h1, h2, h3⟩ := pairsB_iff.1 h
  exact pairsB_iff.2 ⟨Nat.le_trans (List.length_filter_le _ _) h1, fun p hp => h2 p (List.mem_filter.1 hp).1, rise_filter _ h3⟩
theorem own_has {s : StepV} {l : List PairV} {t k : ByteArray} (ht : spkB s t = true) : hasP (ownP s true l) t k = hasP l t k := by
  rw [Bool.eq_iff_iff, hasP_iff, hasP_iff]
  constructor
  · rintro ⟨q, h1, h2, h3⟩; exact ⟨q, (mem_own.1 h1).1, h2, h3⟩
  · rintro ⟨q, h1, h2, h3⟩; exact ⟨q, mem_own.2 ⟨h1, by rw [h2]; exact ht⟩, h2, h3⟩
theorem spk_own (s : StepV) : spkB s s.table = true := spk_iff.2 (.inl rfl)
/-- What stands behind a step, as a set. -/
theorem map_err {f t : ByteArray} (hf : knownB f = true) : ∀ l : List PairV, (mapP f t l).2 = 0 ∨ ((mapP f t l).2 = 162 ∧ ∃ q ∈ l, q.table = t ∧ (callV f q.value).2 ≠ 0)
  | [] => .inl rfl
  | q :: r => by
    unfold mapP
    split
    · rename_i h1
      split
      · split
        · exact .inl rfl
        · rename_i h2 h3
          rcases map_err hf r with h | ⟨h, q2, h4, h5⟩
          · exact absurd h h3
          · exact .inr ⟨h, q2, List.mem_cons_of_mem _ h4, h5⟩
      · rename_i h2
        exact .inr ⟨(call_err hf).resolve_left h2, q, by simp, eqB_iff.1 h1, h2⟩
    · split
      · exact .inl rfl
      · rename_i h2 h3
        rcases map_err hf r with h | ⟨h, q2, h4, h5⟩
        · exact absurd h h3
        · exact .inr ⟨h, q2, List.mem_cons_of_mem _ h4, h5⟩
theorem map_own {s : StepV} {l : List PairV} (hf : knownB s.text = true) : (mapP s.text s.table (ownP s true l)).2 = (mapP s.text s.table l).2 := by
  rcases map_err hf l with h | ⟨h, q, hq, ht, hc⟩
  · obtain ⟨_, hc⟩ := map_ok _ _ _ h
    rw [h, map_of _ _ _ fun q hq ht => hc q (mem_own.1 hq).1 ht]
  · rw [h]
    rcases map_err hf (ownP s true l) with h2 | ⟨h2, _⟩
    · obtain ⟨_, hc2⟩ := map_ok _ _ _ h2
      exact absurd (hc2 q (mem_own.2 ⟨hq, by rw [ht]; exact spk_own s⟩) ht) hc
    · exact h2
/-- The same error, and (where there is none) the same of what is its own; the others stay. -/
theorem does_own {l : List PairV} {s : StepV} (hl : pairsB l = true) (hr : rightS s = true) : (doesP (ownP s true l) s).2 = (doesP l s).2 ∧ ((doesP l s).2 = 0 →
    (∀ x, x ∈ (doesP (ownP s true l) s).1 ↔ x ∈ (doesP l s).1 ∧ spkB s x.table = true) ∧ ∀ x, ¬ spkB s x.table = true → (x ∈ (doesP l s).1 ↔ x ∈ l)) := by
  obtain ⟨_, hok, hri⟩ := pairsB_iff.1 hl
  obtain ⟨r0, r1, r3, r4, r5⟩ := right_parts hr
  have hs := spk_own s
  rcases right_kind hr with k | k | k | k | k
  · rw [does1 k, does1 k, own_has hs]
    cases hasP l s.table s.key with
    | true => exact ⟨rfl, fun h => by cases h⟩
    | false =>
      refine ⟨rfl, fun _ => ⟨fun x => ?_, fun x hx => ?_⟩⟩
      · rw [if_neg (by simp), if_neg (by simp), mem_ins, mem_ins, mem_own]
        constructor
        · rintro (rfl | h)
          · exact ⟨.inl rfl, hs⟩
          · exact ⟨.inr h.1, h.2⟩
        · rintro ⟨rfl | h, h2⟩
          · exact .inl rfl
          · exact .inr ⟨h, h2⟩
      · rw [if_neg (by simp), mem_ins]
        constructor
        · rintro (rfl | h)
          · exact absurd hs hx
          · exact h
        · exact .inr
  · rw [does2 k, does2 k]
    refine ⟨rfl, fun _ => ⟨fun x => ?_, fun x hx => ?_⟩⟩
    · unfold dropP
      rw [List.mem_filter, List.mem_filter, mem_own]
      constructor
      · rintro ⟨⟨h1, h2⟩, h3⟩; exact ⟨⟨h1, h3⟩, h2⟩
      · rintro ⟨⟨h1, h3⟩, h2⟩; exact ⟨⟨h1, h2⟩, h3⟩
    · unfold dropP
      rw [List.mem_filter]
      refine ⟨fun h => h.1, fun h => ⟨h, ?_⟩⟩
      unfold keepP
      rw [eqB_ne (fun e => hx (by rw [e]; exact hs))]; rfl
  · rw [does4 k, does4 k]
    have hst : spkB s s.to = true := spk_iff.2 (.inr ⟨k, rfl⟩)
    have own_t : ∀ t, spkB s t = true → ((∃ q ∈ ownP s true l, q.table = t) ↔ ∃ q ∈ l, q.table = t) := fun t ht => by
      constructor
      · rintro ⟨q, h1, h2⟩; exact ⟨q, (mem_own.1 h1).1, h2⟩
      · rintro ⟨q, h1, h2⟩; exact ⟨q, mem_own.2 ⟨h1, by rw [h2]; exact ht⟩, h2⟩
    have none_t : ∀ t, spkB s t = true → ((∀ q ∈ ownP s true l, q.table ≠ t) ↔ ∀ q ∈ l, q.table ≠ t) := fun t ht => by
      constructor
      · intro h q hq e; exact h q (mem_own.2 ⟨hq, by rw [e]; exact ht⟩) e
      · intro h q hq; exact h q (mem_own.1 hq).1
    rcases tab_cases l s with ⟨a1, e⟩ | ⟨a1, a2, e⟩ | ⟨a1, a2, e⟩
    · rcases tab_cases (ownP s true l) s with ⟨b1, e'⟩ | ⟨b1, b2, e'⟩ | ⟨b1, b2, e'⟩
      · rw [e, e']
        exact ⟨rfl, fun _ => ⟨fun x => mem_own, fun x _ => Iff.rfl⟩⟩
      · obtain ⟨q, hq, ht⟩ := (own_t _ hs).1 b1; exact absurd ht (a1 q hq)
      · obtain ⟨q, hq, ht⟩ := (own_t _ hs).1 b1; exact absurd ht (a1 q hq)
    · rcases tab_cases (ownP s true l) s with ⟨b1, e'⟩ | ⟨b1, b2, e'⟩ | ⟨b1, b2, e'⟩
      · obtain ⟨q, hq, ht⟩ := a1; exact absurd ht ((none_t _ hs).1 b1 q hq)
      · rw [e, e']; exact ⟨rfl, fun h => by cases h⟩
      · obtain ⟨q, hq, ht⟩ := a2; exact absurd ht ((none_t _ hst).1 b2 q hq)
    · rcases tab_cases (ownP s true l) s with ⟨b1, e'⟩ | ⟨b1, b2, e'⟩ | ⟨b1, b2, e'⟩
      · obtain ⟨q, hq, ht⟩ := a1; exact absurd ht ((none_t _ hs).1 b1 q hq)
      · obtain ⟨q, hq, ht⟩ := (own_t _ hst).1 b2; exact absurd ht (a2 q hq)
      · rw [e, e']
        refine ⟨rfl, fun _ => ⟨fun x => ?_, fun x hx => ?_⟩⟩
        · rw [mem_tab, mem_tab, mem_own]
          constructor
          · rintro (⟨⟨h1, h2⟩, h3⟩ | ⟨q, hq, qt, rfl⟩)
            · exact ⟨.inl ⟨h1, h3⟩, h2⟩
            · exact ⟨.inr ⟨q, (mem_own.1 hq).1, qt, rfl⟩, hst⟩
          · rintro ⟨⟨h1, h3⟩ | ⟨q, hq, qt, rfl⟩, h2⟩
            · exact .inl ⟨⟨h1, h2⟩, h3⟩
            · exact .inr ⟨q, mem_own.2 ⟨hq, by rw [qt]; exact hs⟩, qt, rfl⟩
        · rw [mem_tab]
          constructor
          · rintro (⟨h1, _⟩ | ⟨q, hq, qt, rfl⟩)
            · exact h1
            · exact absurd hst hx
          · exact fun h => .inl ⟨h, fun e => hx (by rw [e]; exact hs)⟩
  · rw [does5 k, does5 k]
    refine ⟨map_own (r5 k), fun h => ?_⟩
    obtain ⟨e, hc⟩ := map_ok _ _ _ h
    rw [map_of _ _ _ fun q hq ht => hc q (mem_own.1 hq).1 ht, e]
    refine ⟨fun x => ?_, fun x hx => ?_⟩
    · rw [List.mem_map, List.mem_map]
      constructor
      · rintro ⟨q, hq, rfl⟩
        obtain ⟨h1, h2⟩ := mem_own.1 hq
        exact ⟨⟨q, h1, rfl⟩, by rw [(mapV_key _ _ q).1]; exact h2⟩
      · rintro ⟨⟨q, hq, rfl⟩, h2⟩
        rw [(mapV_key _ _ q).1] at h2
        exact ⟨q, mem_own.2 ⟨hq, h2⟩, rfl⟩
    · rw [List.mem_map]
      have hid : ∀ q : PairV, ¬ spkB s q.table = true → mapV s.text s.table q = q := fun q hq => by
        unfold mapV
        rw [if_neg (fun e => hq (by rw [eqB_iff.1 e]; exact hs))]
      constructor
      · rintro ⟨q, hq, rfl⟩
        rw [(mapV_key _ _ q).1] at hx
        rw [hid q hx]; exact hq
      · exact fun h => ⟨x, h, hid x hx⟩
  · rw [does3 k, does3 k]
    have hpos : ∀ q ∈ l, q.table = s.table → q ∈ ownP s true l := fun q hq ht => mem_own.2 ⟨hq, by rw [ht]; exact hs⟩
    rcases mov_cases l s with ⟨a1, e⟩ | ⟨a1, a2, e⟩ | ⟨a2, q, hq, qt, qk, e⟩
    · rcases mov_cases (ownP s true l) s with ⟨b1, e'⟩ | ⟨b1, b2, e'⟩ | ⟨b2, q', hq', qt', qk', e'⟩
      · rw [e, e']
        exact ⟨rfl, fun _ => ⟨fun x => mem_own, fun x _ => Iff.rfl⟩⟩
      · rw [own_has hs, a1] at b1; cases b1
      · exact absurd ⟨qt', qk'⟩ (hasP_no a1 q' (mem_own.1 hq').1)
    · rcases mov_cases (ownP s true l) s with ⟨b1, e'⟩ | ⟨b1, b2, e'⟩ | ⟨b2, q', hq', qt', qk', e'⟩
      · rw [own_has hs, a1] at b1; cases b1
      · rw [e, e']; exact ⟨rfl, fun h => by cases h⟩
      · rw [own_has hs, a2] at b2; cases b2
    · rcases mov_cases (ownP s true l) s with ⟨b1, e'⟩ | ⟨b1, b2, e'⟩ | ⟨b2, q', hq', qt', qk', e'⟩
      · exact absurd ⟨qt, qk⟩ (hasP_no b1 q (hpos q hq qt))
      · rw [own_has hs, a2] at b2; cases b2
      · have eq : q = q' := rise_one hri hq (mem_own.1 hq').1 (qt.trans qt'.symm) (qk.trans qk'.symm)
        subst eq
        rw [e, e']
        refine ⟨rfl, fun _ => ⟨fun x => ?_, fun x hx => ?_⟩⟩
        · dsimp only
          rw [mem_ins, mem_ins]
          constructor
          · rintro (rfl | h)
            · exact ⟨.inl rfl, hs⟩
            · refine ⟨.inr ?_, ?_⟩
              · split at h
                · rename_i h3
                  rw [if_pos h3]
                  exact List.mem_filter.2 ⟨(mem_own.1 (List.mem_filter.1 h).1).1, (List.mem_filter.1 h).2⟩
                · rename_i h3
                  rw [if_neg h3]
                  exact (mem_own.1 h).1
              · split at h
                · exact (mem_own.1 (List.mem_filter.1 h).1).2
                · exact (mem_own.1 h).2
          · rintro ⟨rfl | h, h2⟩
            · exact .inl rfl
            · refine .inr ?_
              split at h
              · rename_i h3
                rw [if_pos h3]
                exact List.mem_filter.2 ⟨mem_own.2 ⟨(List.mem_filter.1 h).1, h2⟩, (List.mem_filter.1 h).2⟩
              · rename_i h3
                rw [if_neg h3]
                exact mem_own.2 ⟨h, h2⟩
        · dsimp only
          rw [mem_ins]
          constructor
          · rintro (rfl | h)
            · exact absurd hs hx
            · split at h
              · exact (List.mem_filter.1 h).1
              · exact h
          · intro h
            refine .inr ?_
            split
            · refine List.mem_filter.2 ⟨h, ?_⟩
              unfold keepP
              rw [eqB_ne (fun e => hx (by rw [e]; exact hs))]; rfl
            · exact h
def noneW : ByteArray := mkB [110, 111, 110, 101]
def dropNone : StepV := ⟨2, noneW, noneW, emB, emB⟩
theorem none_right : rightS dropNone = true := by decide +kernel
theorem drop_in {l : List PairV} (h : pairsB l = true) : (applyP l dropNone).2 = 0 := by
  rw [apply_of h none_right (by rw [does2 rfl]) (by rw [does2 rfl]; exact Nat.le_trans (List.length_filter_le _ _) (pairsB_iff.1 h).1)]
/-- StepAlone, in plain words. -/
theorem alone_any (l : List PairV) (s : StepV) : ((applyP l s).2 = 1 ∨ (applyP l s).2 = 163) ∨ ((applyP (ownP s true l) s).2 = (applyP l s).2 ∧ ((applyP l s).2 = 0 →
    ownP s true (applyP l s).1 = (applyP (ownP s true l) s).1 ∧ ownP s false (applyP l s).1 = ownP s false l ∧ Rise (applyP l s).1 ∧ (applyP (applyP l s).1 dropNone).2 = 0)) := by
  by_cases h1 : pairsB l = true
  · by_cases h2 : rightS s = true
    · obtain ⟨d1, d2⟩ := does_own h1 h2
      by_cases h3 : (doesP l s).2 = 0
      · by_cases h4 : (doesP l s).1.length ≤ 500
        · have e := apply_of h1 h2 h3 h4
          obtain ⟨m1, m2⟩ := d2 h3
          obtain ⟨_, hri⟩ := does_out h1 h2 h3
          obtain ⟨_, hri2⟩ := does_out (own_pairs (s := s) (b := true) h1) h2 (d1.trans h3)
          have e1 : ownP s true (doesP l s).1 = (doesP (ownP s true l) s).1 := rise_ext (rise_filter _ hri) hri2 fun x => by rw [mem_own, m1]
          have e2 := apply_of (own_pairs (s := s) (b := true) h1) h2 (d1.trans h3) (by rw [← e1]; exact Nat.le_trans (List.length_filter_le _ _) h4)
          rw [e, e2]
          refine .inr ⟨rfl, fun _ => ⟨e1, ?_, hri, ?_⟩⟩
          · refine rise_ext (rise_filter _ hri) (rise_filter _ (pairsB_iff.1 h1).2.2) fun x => ?_
            rw [mem_not, mem_not]
            exact and_congr_left fun hx => m2 x hx
          · have := apply_out (l := l) (s := s) (by rw [e])
            rw [e] at this
            exact drop_in this
        · refine .inl (.inr ?_)
          unfold applyP
          rw [if_neg (by simp [h1]), if_neg (by simp [h2]), if_neg (by simp [h3]), if_pos (by omega)]
      · have e : applyP l s = ([], (doesP l s).2) := by unfold applyP; rw [if_neg (by simp [h1]), if_neg (by simp [h2]), if_pos h3]
        have h3' : (doesP (ownP s true l) s).2 ≠ 0 := by rw [d1]; exact h3
        have e2 : applyP (ownP s true l) s = ([], (doesP (ownP s true l) s).2) := by unfold applyP; rw [if_neg (by simp [own_pairs h1]), if_neg (by simp [h2]), if_pos h3']
        rw [e, e2]
        exact .inr ⟨d1, fun h => absurd h h3⟩
    · have h2' : rightS s = false := by simpa using h2
      have e : applyP l s = ([], 160) := by unfold applyP; rw [if_neg (by simp [h1]), if_pos h2']
      have e2 : applyP (ownP s true l) s = ([], 160) := by unfold applyP; rw [if_neg (by simp [own_pairs h1]), if_pos h2']
      rw [e, e2]
      exact .inr ⟨rfl, fun h => by cases h⟩
  · refine .inl (.inl ?_)
    unfold applyP
    rw [if_pos (by simpa using h1)]
end Go.Proofs.YticcdighfojjjaaGreatDoor
