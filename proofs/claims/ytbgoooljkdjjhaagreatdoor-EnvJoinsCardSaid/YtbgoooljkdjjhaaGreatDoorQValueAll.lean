/-
  ValueAll.
-/
import Derived.Test.YtbgoooljkdjjhaaGreatDoorQValueTexts
namespace Go.Proofs.YtbgoooljkdjjhaaGreatDoor

theorem text_nil {t : ByteArray} (h : t.data.toList = []) : t = ⟨#[]⟩ := by
  rw [← mkB_self t, h]; rfl
theorem bool_cases (s : List UInt8) : boolV s = (1, 0) ∨ boolV s = (0, 0) ∨ boolV s = (0, 40) := by
  unfold boolV; repeat' split
  all_goals simp
theorem back_read (v : Val) (hr : rightV v = true) : parseV v.kind (mkB (printV v)) = (v, 0) := by
  have hc := right_cases hr
  clear hr
  obtain ⟨k, n, t, xs⟩ := v
  simp only at hc ⊢
  rcases hc with ⟨rfl, h, ht, hx⟩ | ⟨rfl, h, ht, hx⟩ | ⟨hk, h, ht, hx⟩ | ⟨rfl, rfl, ht, hx⟩ | ⟨rfl, rfl, ht, h1, h2, h3⟩
  · obtain rfl := text_nil ht
    obtain rfl := List.eq_nil_of_length_eq_zero hx
    rw [parse1, mkB_data]
    have hn : n = 0 ∨ n = 1 := by omega
    rcases hn with rfl | rfl <;> rfl
  · obtain rfl := text_nil ht
    obtain rfl := List.eq_nil_of_length_eq_zero hx
    rw [parse2, mkB_data]
    have e : printV ⟨2, n, ⟨#[]⟩, []⟩ = Lib.itoa n := rfl
    rw [e, whole_itoa n h.1 h.2]; rfl
  · obtain rfl := text_nil ht
    obtain rfl := List.eq_nil_of_length_eq_zero hx
    have hp : parseV k (mkB (printV ⟨k, n, ⟨#[]⟩, []⟩)) = intOk k (unitedV k (printV ⟨k, n, ⟨#[]⟩, []⟩)) := by
      rcases hk with rfl | rfl
      · rw [parse3, mkB_data]
      · rw [parse4, mkB_data]
    have e : printV ⟨k, n, ⟨#[]⟩, []⟩ = Lib.itoa (n / (unitFor k n).1) ++ (unitFor k n).2 := by
      unfold printV; rw [if_neg (by simp only; omega), if_neg (by simp only; omega), if_pos hk]
    rw [hp, e, united_print k n hk h.1 h.2]; rfl
  · obtain rfl := List.eq_nil_of_length_eq_zero hx
    have e : printV ⟨5, 0, t, []⟩ = t.data.toList := rfl
    rw [e, mkB_self, parse5]
    unfold textR; rw [if_pos ht]
  · obtain rfl := text_nil ht
    have e : printV ⟨6, 0, ⟨#[]⟩, xs⟩ = joinW xs := rfl
    obtain ⟨w1, w2⟩ := words_print h1 h2 h3
    rw [e, parse6]
    unfold listR; rw [mkB_data, if_pos w1, w2]
theorem intOk_zero {k : Int} {r : Int × Int} (h : (intOk k r).2 = 0) : r.2 = 0 ∧ (intOk k r).1 = ⟨k, r.1, ⟨#[]⟩, []⟩ := by
  unfold intOk at h ⊢
  by_cases h0 : r.2 = 0
  · rw [if_pos h0]; exact ⟨h0, rfl⟩
  · rw [if_neg h0] at h; exact absurd h h0
theorem read_right {k : Int} {s : ByteArray} (h : (parseV k s).2 = 0) : rightV (parseV k s).1 = true ∧ (parseV k s).1.kind = k ∧ ((k = 2 ∨ k = 5 ∨ k = 6) → printV (parseV k s).1 = s.data.toList) := by
  by_cases h1 : k = 1
  · subst h1; rw [parse1] at h ⊢
    obtain ⟨e, q⟩ := intOk_zero h
    rw [q]
    refine ⟨?_, rfl, by omega⟩
    rcases bool_cases s.data.toList with b | b | b <;> rw [b] at e ⊢
    · rfl
    · rfl
    · cases e
  by_cases h2 : k = 2
  · subst h2; rw [parse2] at h ⊢
    obtain ⟨e, q⟩ := intOk_zero h
    have hb := whole_bd e
    rw [q]
    refine ⟨?_, rfl, fun _ => whole_text e⟩
    unfold rightV; rw [if_neg (by simp only; omega), if_pos rfl, decide_eq_true hb]; rfl
  by_cases h3 : k = 3 ∨ k = 4
  · have hp : parseV k s = intOk k (unitedV k s.data.toList) := by
      rcases h3 with rfl | rfl
      · exact parse3 s
      · exact parse4 s
    rw [hp] at h ⊢
    obtain ⟨e, q⟩ := intOk_zero h
    have hb := united_bd e
    rw [q]
    refine ⟨?_, rfl, by omega⟩
    unfold rightV; rw [if_neg (by simp only; omega), if_neg (by simp only; omega), if_pos h3, decide_eq_true hb]; rfl
  by_cases h5 : k = 5
  · subst h5; rw [parse5] at h ⊢
    unfold textR at h ⊢
    by_cases ht : textV s.data.toList = 0
    · rw [if_pos ht]
      refine ⟨?_, rfl, fun _ => rfl⟩
      unfold rightV; rw [if_neg (by simp only; omega), if_neg (by simp only; omega), if_neg (by simp only; omega), if_pos rfl, decide_eq_true ht]; rfl
    · rw [if_neg ht] at h; exact absurd h ht
  by_cases h6 : k = 6
  · subst h6; rw [parse6] at h ⊢
    unfold listR at h ⊢
    by_cases ht : wordsV s.data.toList = 0
    · rw [if_pos ht]
      obtain ⟨w1, w2, w3, w4⟩ := words_cases ht
      refine ⟨?_, rfl, fun _ => w3⟩
      unfold rightV wordsRight
      rw [if_neg (by simp only; omega), if_neg (by simp only; omega), if_neg (by simp only; omega), if_neg (by simp only; omega), if_pos rfl]
      simp only
      rw [w2, w3, decide_eq_true w1, decide_eq_true w4]; rfl
    · rw [if_neg ht] at h; exact absurd h ht
  · rw [parse0 h1 h2 (by omega) (by omega) h5 h6] at h; cases h
/-- Two right values of a kind are printed alike just if they are the same. -/
theorem print_one {v w : Val} (hv : rightV v = true) (hw : rightV w = true) (hk : v.kind = w.kind) : sameV v w = decide (printV v = printV w) := by
  by_cases h : printV v = printV w
  · have h1 := back_read v hv
    have h2 := back_read w hw
    rw [h, hk, h2] at h1
    have e : w = v := congrArg Prod.fst h1
    subst e
    simp [sameV]
  · rw [decide_eq_false h]
    cases hs : sameV v w with
    | false => rfl
    | true =>
      unfold sameV at hs
      simp only [Bool.and_eq_true, decide_eq_true_eq] at hs
      obtain ⟨⟨⟨a, b⟩, c⟩, d⟩ := hs
      exact absurd (by obtain ⟨_, _, _, _⟩ := v; obtain ⟨_, _, _, _⟩ := w; simp only at a b c d; subst a b c d; rfl) h
theorem same_self (v : Val) : sameV v v = true := by simp [sameV]
end Go.Proofs.YtbgoooljkdjjhaaGreatDoor
