/-
  EnvJoinMath.
-/
import Derived.Test.YtbgoooljkdjjhaaGreatDoorQEnvPairs
namespace Go.Proofs.YtbgoooljkdjjhaaGreatDoor

def shG (d : Nat) (g : GivV) : GivV := ⟨g.name, g.text, g.at_ + d⟩
theorem pairG_shift (ns : List ByteArray) (k d : Nat) (p : List UInt8) : pairG ns (k + d) p = (pairG ns k p).map (shG d) := by
  unfold pairG
  cases findN ns (upTo 61 p) with
  | none => rfl
  | some n => simp [shG]
theorem go_app (ns : List ByteArray) (b : List ByteArray) : ∀ (a : List ByteArray) (k : Nat) (acc : List GivV),
    envGo ns k (a ++ b) acc = if (envGo ns k a acc).2.1 = 0 then envGo ns (k + a.length) b (envGo ns k a acc).1 else envGo ns k a acc := by
  intro a
  induction a with
  | nil => intro k acc; simp [envGo]
  | cons p r ih =>
    intro k acc
    rw [List.cons_append, envGo, envGo]
    by_cases h : pairE ns p.data.toList = 0
    · rw [if_pos h, if_pos h, ih, List.length_cons, show k + 1 + r.length = k + (r.length + 1) by omega]
    · rw [if_neg h, if_neg h, if_neg h]
theorem go_shift (ns : List ByteArray) (d : Nat) (acc0 : List GivV) : ∀ (b : List ByteArray) (k : Nat) (acc : List GivV),
    envGo ns (k + d) b (acc0 ++ acc.map (shG d)) = if (envGo ns k b acc).2.1 = 0 then (acc0 ++ (envGo ns k b acc).1.map (shG d), 0, 0) else ([], (envGo ns k b acc).2.1, (envGo ns k b acc).2.2 + d) := by
  intro b
  induction b with
  | nil => intro k acc; simp [envGo]
  | cons p r ih =>
    intro k acc
    rw [envGo, envGo]
    by_cases h : pairE ns p.data.toList = 0
    · rw [if_pos h, if_pos h, pairG_shift, List.append_assoc, ← List.map_append, show k + d + 1 = k + 1 + d by omega, ih]
    · rw [if_neg h, if_neg h, if_neg h]
      simp
theorem go_zero (ns : List ByteArray) : ∀ (b : List ByteArray) (k : Nat) (acc : List GivV), (envGo ns k b acc).2.1 = 0 → (envGo ns k b acc).2.2 = 0 := by
  intro b
  induction b with
  | nil => intro k acc _; rfl
  | cons p r ih =>
    intro k acc
    rw [envGo]
    by_cases h : pairE ns p.data.toList = 0
    · rw [if_pos h]; exact ih _ _
    · rw [if_neg h]; intro h2; exact absurd h2 h
theorem go_bad (ns : List ByteArray) : ∀ (b : List ByteArray) (k : Nat) (acc : List GivV), (envGo ns k b acc).2.1 ≠ 0 → (envGo ns k b acc).1 = [] ∧ (k : Int) ≤ (envGo ns k b acc).2.2 ∧ (envGo ns k b acc).2.2 < k + b.length := by
  intro b
  induction b with
  | nil => intro k acc h; exact absurd rfl h
  | cons p r ih =>
    intro k acc
    rw [envGo]
    by_cases h : pairE ns p.data.toList = 0
    · rw [if_pos h]
      intro h2
      obtain ⟨h3, h4, h5⟩ := ih (k + 1) _ h2
      refine ⟨h3, by omega, ?_⟩
      rw [List.length_cons]; omega
    · rw [if_neg h]
      intro _
      refine ⟨rfl, Int.le_refl _, ?_⟩
      rw [List.length_cons]
      show (k : Int) < k + (r.length + 1 : Nat)
      omega
theorem pairE_has {ns : List ByteArray} {p : List UInt8} (h : pairE ns p = 0) : p.contains 61 = true := by
  cases hc : p.contains 61 with
  | true => rfl
  | false =>
    unfold pairE at h
    rw [hc] at h
    simp at h
theorem go_told (ns : List ByteArray) : ∀ (b : List ByteArray) (k : Nat) (acc : List GivV), (envGo ns k b acc).2.1 = 0 → ∀ g ∈ (envGo ns k b acc).1, g ∈ acc ∨ (g.name ∈ ns ∧ ∃ (j : Nat) (hj : j < b.length), g.at_ = ((k + j : Nat) : Int) ∧ b[j].data.toList = calledL g.name.data.toList ++ 61 :: g.text.data.toList) := by
  intro b
  induction b with
  | nil => intro k acc _ g hg; exact .inl hg
  | cons p r ih =>
    intro k acc
    rw [envGo]
    by_cases h : pairE ns p.data.toList = 0
    · rw [if_pos h]
      intro h2 g hg
      rcases ih (k + 1) _ h2 g hg with h3 | ⟨h3, j, hj, h4, h5⟩
      · rcases List.mem_append.1 h3 with h3 | h3
        · exact .inl h3
        · right
          unfold pairG at h3
          cases hf : findN ns (upTo 61 p.data.toList) with
          | none => rw [hf] at h3; cases h3
          | some n =>
            rw [hf] at h3
            obtain rfl := List.mem_singleton.1 h3
            obtain ⟨h6, h7⟩ := findN_some hf
            refine ⟨h6, 0, by simp, rfl, ?_⟩
            show p.data.toList = calledL n.data.toList ++ 61 :: (mkB (after 61 p.data.toList)).data.toList
            rw [mkB_data, h7]
            exact whole_is 61 _ (pairE_has h)
      · right
        refine ⟨h3, j + 1, by simpa using hj, by rw [h4]; congr 1; omega, h5⟩
    · rw [if_neg h]; intro h2; exact absurd h2 h
theorem go_len (ns : List ByteArray) : ∀ (b : List ByteArray) (k : Nat) (acc : List GivV), (envGo ns k b acc).1.length ≤ acc.length + b.length := by
  intro b
  induction b with
  | nil => intro k acc; simp [envGo]
  | cons p r ih =>
    intro k acc
    rw [envGo]
    by_cases h : pairE ns p.data.toList = 0
    · rw [if_pos h]
      have h1 := ih (k + 1) (acc ++ pairG ns k p.data.toList)
      have h2 := pairG_len ns k p.data.toList
      rw [List.length_append] at h1
      rw [List.length_cons]
      omega
    · rw [if_neg h]; simp
theorem env_len (ns ps : List ByteArray) : (envP ns ps).1.length ≤ ps.length := by
  have := go_len ns ps 0 []
  unfold envP
  simpa using this
/-- Two lists, one behind the other. -/
theorem join_bad {ns a b : List ByteArray} (h : (envP ns a).2.1 ≠ 0) : (envP ns a).1 = [] ∧ 0 ≤ (envP ns a).2.2 ∧ (envP ns a).2.2 < a.length ∧ envP ns (a ++ b) = envP ns a := by
  unfold envP at h ⊢
  obtain ⟨h1, h2, h3⟩ := go_bad ns a 0 [] h
  refine ⟨h1, by simpa using h2, by simpa using h3, ?_⟩
  rw [go_app, if_neg h]
theorem join_bad2 {ns a b : List ByteArray} (h : (envP ns a).2.1 = 0) (h2 : (envP ns b).2.1 ≠ 0) : envP ns (a ++ b) = ([], (envP ns b).2.1, (envP ns b).2.2 + a.length) := by
  unfold envP at h h2 ⊢
  rw [go_app, if_pos h]
  have := go_shift ns a.length (envGo ns 0 a []).1 b 0 []
  rw [List.map_nil, List.append_nil] at this
  rw [this, if_neg h2]
theorem join_ok {ns a b : List ByteArray} (h : (envP ns a).2.1 = 0) (h2 : (envP ns b).2.1 = 0) : envP ns (a ++ b) = ((envP ns a).1 ++ (envP ns b).1.map (shG a.length), 0, 0) := by
  unfold envP at h h2 ⊢
  rw [go_app, if_pos h]
  have := go_shift ns a.length (envGo ns 0 a []).1 b 0 []
  rw [List.map_nil, List.append_nil] at this
  rw [this, if_pos h2]
theorem env_told {ns ps : List ByteArray} (h : (envP ns ps).2.1 = 0) {g : GivV} (hg : g ∈ (envP ns ps).1) : g.name ∈ ns ∧ ∃ (j : Nat) (hj : j < ps.length), g.at_ = (j : Int) ∧ ps[j] = (mkB (calledL g.name.data.toList) ++ (⟨#[61]⟩ : ByteArray)) ++ g.text := by
  rcases go_told ns ps 0 [] h g hg with h1 | ⟨h1, j, hj, h2, h3⟩
  · cases h1
  · refine ⟨h1, j, hj, by rw [h2, Nat.zero_add], ?_⟩
    rw [← mkB_self ps[j], h3]
    have e : ((mkB (calledL g.name.data.toList) ++ (⟨#[61]⟩ : ByteArray)) ++ g.text).data.toList = calledL g.name.data.toList ++ 61 :: g.text.data.toList := by
      simp [ByteArray.data_append, mkB]
    rw [← e, mkB_self]
/-! Each setting by itself -/
theorem find_self {ns : List ByteArray} (hok : AllOk ns) {n : ByteArray} (h : n ∈ ns) : findN ns (calledL n.data.toList) = some n := by
  cases hf : findN ns (calledL n.data.toList) with
  | none =>
    unfold findN at hf
    have := List.find?_eq_none.1 hf n h
    simp at this
  | some m =>
    obtain ⟨h1, h2⟩ := findN_some hf
    have := called_inj (hok m h1) (hok n h) h2
    rw [← mkB_self m, this, mkB_self]
theorem upTo_at {d : UInt8} {a b : List UInt8} (h : a.contains d = false) : upTo d (a ++ d :: b) = a ∧ after d (a ++ d :: b) = b ∧ (a ++ d :: b).contains d = true := by
  induction a with
  | nil => exact ⟨upTo_sep _ _, after_sep _ _, by simp⟩
  | cons c r ih =>
    have e : c ≠ d := fun e => by subst e; simp at h
    rw [has_cons e] at h
    obtain ⟨h1, h2, h3⟩ := ih h
    exact ⟨by rw [List.cons_append, upTo_cons e, h1], by rw [List.cons_append, after_cons e, h2], by rw [List.cons_append, has_cons e, h3]⟩
def withX (n : ByteArray) : ByteArray := mkB (calledL n.data.toList) ++ (⟨#[61, 120]⟩ : ByteArray)
theorem withX_data (n : ByteArray) : (withX n).data.toList = calledL n.data.toList ++ 61 :: [120] := by
  unfold withX
  simp [ByteArray.data_append, mkB]
theorem pair_self {ns : List ByteArray} (hok : AllOk ns) {n : ByteArray} (h : n ∈ ns) (hne : n.data.toList ≠ []) (k : Nat) : pairE ns (withX n).data.toList = 0 ∧ pairG ns k (withX n).data.toList = [⟨n, ⟨#[120]⟩, k⟩] := by
  rw [withX_data]
  obtain ⟨h1, h2, h3⟩ := upTo_at (b := [120]) (called_noeq (hok n h))
  unfold pairE pairG
  rw [h1, h2, h3, find_self hok h]
  refine ⟨?_, rfl⟩
  have : (calledL n.data.toList).isEmpty = false := by
    unfold calledL
    cases hl : n.data.toList with
    | nil => exact absurd hl hne
    | cons c r => rfl
  rw [this]; rfl
theorem self_form {ns : List ByteArray} (hok : AllOk ns) {n : ByteArray} (h : n ∈ ns) (hne : n.data.toList ≠ []) (v : ByteArray) : envP ns [withX n, ⟨#[61]⟩, v] = ([], 80, 1) := by
  obtain ⟨h1, _⟩ := pair_self hok h hne 0
  unfold envP
  rw [envGo, if_pos h1, envGo, if_neg]
  · have : pairE ns (⟨#[61]⟩ : ByteArray).data.toList = 80 := rfl
    rw [this]; rfl
  · have : pairE ns (⟨#[61]⟩ : ByteArray).data.toList = 80 := rfl
    rw [this]; decide
theorem one_pair {ns : List ByteArray} (hnb : ∀ n ∈ ns, nameB n.data.toList = true) : pairE ns (⟨#[49, 61, 120]⟩ : ByteArray).data.toList = 0 ∧ ∀ k, pairG ns k (⟨#[49, 61, 120]⟩ : ByteArray).data.toList = [] := by
  have hf : findN ns [49] = none := by
    cases hf : findN ns [49] with
    | none => rfl
    | some m =>
      obtain ⟨h1, h2⟩ := findN_some hf
      have h3 := called_back (name_ok (hnb m h1))
      rw [h2] at h3
      have h4 := hnb m h1
      rw [← h3] at h4
      exact absurd h4 (by decide)
  have hu : upTo 61 (⟨#[49, 61, 120]⟩ : ByteArray).data.toList = [49] := by decide
  refine ⟨?_, fun k => ?_⟩
  · unfold pairE
    rw [hu, hf]
    rfl
  · unfold pairG
    rw [hu, hf]
theorem self_one {ns : List ByteArray} (hnb : ∀ n ∈ ns, nameB n.data.toList = true) {n : ByteArray} (h : n ∈ ns) : envP ns [⟨#[49, 61, 120]⟩, withX n] = ([⟨n, ⟨#[120]⟩, 1⟩], 0, 0) := by
  have hok : AllOk ns := fun n hn => name_ok (hnb n hn)
  obtain ⟨h1, h2⟩ := pair_self hok h (name_ne (hnb n h)) 1
  obtain ⟨h3, h4⟩ := one_pair hnb
  unfold envP
  rw [envGo, if_pos h3, h4, envGo, if_pos h1, h2, envGo]
  rfl
end Go.Proofs.YtbgoooljkdjjhaaGreatDoor
