/-
  EnvJoinMath, EnvRefs.
-/
import Derived.Test.YtbgoooljkdjjhaaGreatDoorQEnvPairs
import Derived.Test.YtbgoooljkdjjhaaGreatDoorQEnvGreat
namespace Go.Proofs.YtbgoooljkdjjhaaGreatDoor

def shG (d : Nat) (g : GivV) : GivV := ⟨g.name, g.text, g.at_ + d⟩
theorem pairG_shift (ns : List ByteArray) (k d : Nat) (p : List UInt8) : pairG ns (k + d) p = (pairG ns k p).map (shG d) := by
  unfold pairG
  cases findN ns (upTo 61 p) with
  | none => rfl
  | some n => simp [shG]
theorem go_app (ns : List ByteArray) (b : List ByteArray) : ∀ (a : List ByteArray) (k : Nat) (acc : List GivV),
    envGo ns k (a ++ b) acc = if (envGo ns k a acc).2.1 = 0 then envGo ns (k + a.length) b (envGo ns k a acc).1 else envGo ns k a acc := by
  intro a
  induction a with
  | nil => intro k acc; simp [envGo]
  | cons p r ih =>
    intro k acc
    rw [List.cons_append, envGo, envGo]
    by_cases h : pairE ns p.data.toList = 0
    · rw [if_pos h, if_pos h, ih, List.length_cons, show k + 1 + r.length = k + (r.length + 1) by omega]
    · rw [if_neg h, if_neg h, if_neg h]
theorem go_shift (ns : List ByteArray) (d : Nat) (acc0 : List GivV) : ∀ (b : List ByteArray) (k : Nat) (acc : List GivV),
    envGo ns (k + d) b (acc0 ++ acc.map (shG d)) = if (envGo ns k b acc).2.1 = 0 then (acc0 ++ (envGo ns k b acc).1.map (shG d), 0, 0) else ([], (envGo ns k b acc).2.1, (envGo ns k b acc).2.2 + d) := by
  intro b
  induction b with
  | nil => intro k acc; simp [envGo]
  | cons p r ih =>
    intro k acc
    rw [envGo, envGo]
    by_cases h : pairE ns p.data.toList = 0
    · rw [if_pos h, if_pos h, pairG_shift, List.append_assoc, ← List.map_append, show k + d + 1 = k + 1 + d by omega, ih]
    · rw [if_neg h, if_neg h, if_neg h]
      simp
theorem go_zero (ns : List ByteArray) : ∀ (b : List ByteArray) (k : Nat) (acc : List GivV), (envGo ns k b acc).2.1 = 0 → (envGo ns k b acc).2.2 = 0 := by
  intro b
  induction b with
  | nil => intro k acc _; rfl
  | cons p r ih =>
    intro k acc
    rw [envGo]
    by_cases h : pairE ns p.data.toList = 0
    · rw [if_pos h]; exact ih _ _
    · rw [if_neg h]; intro h2; exact absurd h2 h
theorem go_bad (ns : List ByteArray) : ∀ (b : List ByteArray) (k : Nat) (acc : List GivV), (envGo ns k b acc).2.1 ≠ 0 → (envGo ns k b acc).1 = [] ∧ (k : Int) ≤ (envGo ns k b acc).2.2 ∧ (envGo ns k b acc).2.2 < k + b.length := by
  intro b
  induction b with
  | nil => intro k acc h; exact absurd rfl h
  | cons p r ih =>
    intro k acc
    rw [envGo]
    by_cases h : pairE ns p.data.toList = 0
    · rw [if_pos h]
      intro h2
      obtain ⟨h3, h4, h5⟩ := ih (k + 1) _ h2
      refine ⟨h3, by omega, ?_⟩
      rw [List.length_cons]; omega
    · rw [if_neg h]
      intro _
      refine ⟨rfl, Int.le_refl _, ?_⟩
      rw [List.length_cons]
      show (k : Int) < k + (r.length + 1 : Nat)
      omega
theorem pairE_has {ns : List ByteArray} {p : List UInt8} (h : pairE ns p = 0) : p.contains 61 = true := by
  cases hc : p.contains 61 with
  | true => rfl
  | false =>
    unfold pairE at h
    rw [hc] at h
    simp at h
theorem go_told (ns : List ByteArray) : ∀ (b : List ByteArray) (k : Nat) (acc : List GivV), (envGo ns k b acc).2.1 = 0 → ∀ g ∈ (envGo ns k b acc).1, g ∈ acc ∨ (g.name ∈ ns ∧ ∃ (j : Nat) (hj : j < b.length), g.at_ = ((k + j : Nat) : Int) ∧ b[j].data.toList = calledL g.name.data.toList ++ 61 :: g.text.data.toList) := by
  intro b
  induction b with
  | nil => intro k acc _ g hg; exact .inl hg
  | cons p r ih =>
    intro k acc
    rw [envGo]
    by_cases h : pairE ns p.data.toList = 0
    · rw [if_pos h]
      intro h2 g hg
      rcases ih (k + 1) _ h2 g hg with h3 | ⟨h3, j, hj, h4, h5⟩
      · rcases List.mem_append.1 h3 with h3 | h3
        · exact .inl h3
        · right
          unfold pairG at h3
          cases hf : findN ns (upTo 61 p.data.toList) with
          | none => rw [hf] at h3; cases h3
          | some n =>
            rw [hf] at h3
            obtain rfl := List.mem_singleton.1 h3
            obtain ⟨h6, h7⟩ := findN_some hf
            refine ⟨h6, 0, by simp, rfl, ?_⟩
            show p.data.toList = calledL n.data.toList ++ 61 :: (mkB (after 61 p.data.toList)).data.toList
            rw [mkB_data, h7]
            exact whole_is 61 _ (pairE_has h)
      · right
        refine ⟨h3, j + 1, by simpa using hj, by rw [h4]; congr 1; omega, h5⟩
    · rw [if_neg h]; intro h2; exact absurd h2 h
theorem go_len (ns : List ByteArray) : ∀ (b : List ByteArray) (k : Nat) (acc : List GivV), (envGo ns k b acc).1.length ≤ acc.length + b.length := by
  intro b
  induction b with
  | nil => intro k acc; simp [envGo]
  | cons p r ih =>
    intro k acc
    rw [envGo]
    by_cases h : pairE ns p.data.toList = 0
    · rw [if_pos h]
      have h1 := ih (k + 1) (acc ++ pairG ns k p.data.toList)
      have h2 := pairG_len ns k p.data.toList
      rw [List.length_append] at h1
      rw [List.length_cons]
      omega
    · rw [if_neg h]; simp
theorem env_len (ns ps : List ByteArray) : (envP ns ps).1.length ≤ ps.length := by
  have := go_len ns ps 0 []
  unfold envP
  simpa using this
/-- Two lists, one behind the other. -/
theorem join_bad {ns a b : List ByteArray} (h : (envP ns a).2.1 ≠ 0) : (envP ns a).1 = [] ∧ 0 ≤ (envP ns a).2.2 ∧ (envP ns a).2.2 < a.length ∧ envP ns (a ++ b) = envP ns a := by
  unfold envP at h ⊢
  obtain ⟨h1, h2, h3⟩ := go_bad ns a 0 [] h
  refine ⟨h1, by simpa using h2, by simpa using h3, ?_⟩
  rw [go_app, if_neg h]
theorem join_bad2 {ns a b : List ByteArray} (h : (envP ns a).2.1 = 0) (h2 : (envP ns b).2.1 ≠ 0) : envP ns (a ++ b) = ([], (envP ns b).2.1, (envP ns b).2.2 + a.length) := by
  unfold envP at h h2 ⊢
  rw [go_app, if_pos h]
  have := go_shift ns a.length (envGo ns 0 a []).1 b 0 []
  rw [List.map_nil, List.append_nil] at this
  rw [this, if_neg h2]
theorem join_ok {ns a b : List ByteArray} (h : (envP ns a).2.1 = 0) (h2 : (envP ns b).2.1 = 0) : envP ns (a ++ b) = ((envP ns a).1 ++ (envP ns b).1.map (shG a.length), 0, 0) := by
  unfold envP at h h2 ⊢
  rw [go_app, if_pos h]
  have := go_shift ns a.length (envGo ns 0 a []).1 b 0 []
  rw [List.map_nil, List.append_nil] at this
  rw [this, if_pos h2]
theorem env_told {ns ps : List ByteArray} (h : (envP ns ps).2.1 = 0) {g : GivV} (hg : g ∈ (envP ns ps).1) : g.name ∈ ns ∧ ∃ (j : Nat) (hj : j < ps.length), g.at_ = (j : Int) ∧ ps[j] = (mkB (calledL g.name.data.toList) ++ (⟨#[61]⟩ : ByteArray)) ++ g.text := by
  rcases go_told ns ps 0 [] h g hg with h1 | ⟨h1, j, hj, h2, h3⟩
  · cases h1
  · refine ⟨h1, j, hj, by rw [h2, Nat.zero_add], ?_⟩
    rw [← mkB_self ps[j], h3]
    have e : ((mkB (calledL g.name.data.toList) ++ (⟨#[61]⟩ : ByteArray)) ++ g.text).data.toList = calledL g.name.data.toList ++ 61 :: g.text.data.toList := by
      simp [ByteArray.data_append, mkB]
    rw [← e, mkB_self]
/-! Each setting by itself -/
theorem find_self {ns : List ByteArray} (hok : AllOk ns) {n : ByteArray} (h : n ∈ ns) : findN ns (calledL n.data.toList) = some n := by
  cases hf : findN ns (calledL n.data.toList) with
  | none =>
    unfold findN at hf
    have := List.find?_eq_none.1 hf n h
    simp at this
  | some m =>
    obtain ⟨h1, h2⟩ := findN_some hf
    have := called_inj (hok m h1) (hok n h) h2
    rw [← mkB_self m, this, mkB_self]
theorem upTo_at {d : UInt8} {a b : List UInt8} (h : a.contains d = false) : upTo d (a ++ d :: b) = a ∧ after d (a ++ d :: b) = b ∧ (a ++ d :: b).contains d = true := by
  induction a with
  | nil => exact ⟨upTo_sep _ _, after_sep _ _, by simp⟩
  | cons c r ih =>
    have e : c ≠ d := fun e => by subst e; simp at h
    rw [has_cons e] at h
    obtain ⟨h1, h2, h3⟩ := ih h
    exact ⟨by rw [List.cons_append, upTo_cons e, h1], by rw [List.cons_append, after_cons e, h2], by rw [List.cons_append, has_cons e, h3]⟩
def withX (n : ByteArray) : ByteArray := mkB (calledL n.data.toList) ++ (⟨#[61, 120]⟩ : ByteArray)
theorem withX_data (n : ByteArray) : (withX n).data.toList = calledL n.data.toList ++ 61 :: [120] := by
  unfold withX
  simp [ByteArray.data_append, mkB]
theorem pair_self {ns : List ByteArray} (hok : AllOk ns) {n : ByteArray} (h : n ∈ ns) (hne : n.data.toList ≠ []) (k : Nat) : pairE ns (withX n).data.toList = 0 ∧ pairG ns k (withX n).data.toList = [⟨n, ⟨#[120]⟩, k⟩] := by
  rw [withX_data]
  obtain ⟨h1, h2, h3⟩ := upTo_at (b := [120]) (called_noeq (hok n h))
  unfold pairE pairG
  rw [h1, h2, h3, find_self hok h]
  refine ⟨?_, rfl⟩
  have : (calledL n.data.toList).isEmpty = false := by
    unfold calledL
    cases hl : n.data.toList with
    | nil => exact absurd hl hne
    | cons c r => rfl
  rw [this]; rfl
theorem self_form {ns : List ByteArray} (hok : AllOk ns) {n : ByteArray} (h : n ∈ ns) (hne : n.data.toList ≠ []) (v : ByteArray) : envP ns [withX n, ⟨#[61]⟩, v] = ([], 80, 1) := by
  obtain ⟨h1, _⟩ := pair_self hok h hne 0
  unfold envP
  rw [envGo, if_pos h1, envGo, if_neg]
  · have : pairE ns (⟨#[61]⟩ : ByteArray).data.toList = 80 := rfl
    rw [this]; rfl
  · have : pairE ns (⟨#[61]⟩ : ByteArray).data.toList = 80 := rfl
    rw [this]; decide
theorem one_pair {ns : List ByteArray} (hnb : ∀ n ∈ ns, nameB n.data.toList = true) : pairE ns (⟨#[49, 61, 120]⟩ : ByteArray).data.toList = 0 ∧ ∀ k, pairG ns k (⟨#[49, 61, 120]⟩ : ByteArray).data.toList = [] := by
  have hf : findN ns [49] = none := by
    cases hf : findN ns [49] with
    | none => rfl
    | some m =>
      obtain ⟨h1, h2⟩ := findN_some hf
      have h3 := called_back (name_ok (hnb m h1))
      rw [h2] at h3
      have h4 := hnb m h1
      rw [← h3] at h4
      exact absurd h4 (by decide)
  have hu : upTo 61 (⟨#[49, 61, 120]⟩ : ByteArray).data.toList = [49] := by decide
  refine ⟨?_, fun k => ?_⟩
  · unfold pairE
    rw [hu, hf]
    rfl
  · unfold pairG
    rw [hu, hf]
theorem self_one {ns : List ByteArray} (hnb : ∀ n ∈ ns, nameB n.data.toList = true) {n : ByteArray} (h : n ∈ ns) : envP ns [⟨#[49, 61, 120]⟩, withX n] = ([⟨n, ⟨#[120]⟩, 1⟩], 0, 0) := by
  have hok : AllOk ns := fun n hn => name_ok (hnb n hn)
  obtain ⟨h1, h2⟩ := pair_self hok h (name_ne (hnb n h)) 1
  obtain ⟨h3, h4⟩ := one_pair hnb
  unfold envP
  rw [envGo, if_pos h3, h4, envGo, if_pos h1, h2, envGo]
  rfl
end Go.Proofs.YtbgoooljkdjjhaaGreatDoor

namespace Go.Proofs.YtbgoooljkdjjhaaGreatDoor
open Go.ChangeShapes Go.WideShapes Go.ChangeAt Go.RowKit

theorem upTo_hit {d : UInt8} {l : List UInt8} {k : Nat} (hk : k < l.length) (h : (l.take k).contains d = false) (he : l[k] = d) : upTo d l = l.take k ∧ after d l = l.drop (k + 1) ∧ l.contains d = true := by
  have hw : l = l.take k ++ d :: l.drop (k + 1) := by
    conv => lhs; rw [← List.take_append_drop k l, List.drop_eq_getElem_cons hk, he]
  obtain ⟨h1, h2, h3⟩ := upTo_at (b := l.drop (k + 1)) h
  rw [← hw] at h1 h2 h3
  exact ⟨h1, h2, h3⟩
theorem no_next {d : UInt8} {l : List UInt8} {k : Nat} (hk : k < l.length) (h : (l.take k).contains d = false) (he : l[k] ≠ d) : (l.take (k + 1)).contains d = false := by
  rw [List.take_succ_eq_append_getElem hk]
  refine contains_no fun c hc => ?_
  rcases List.mem_append.1 hc with hc | hc
  · intro e; subst e; rw [List.contains_iff_mem.2 hc] at h; cases h
  · rw [List.mem_singleton.1 hc]; exact he
theorem list_at (s : ByteArray) (k : Nat) (h : k < s.size) : s.data.toList[k]'(by simpa using h) = s[k] := by simp [ByteArray.getElem_eq_getElem_data]
set_option maxHeartbeats 1600000 in
set_option maxRecDepth 100000 in
theorem efirst_any (s : ByteArray) (d : UInt8) (w : World) (hs : s.size ≤ maxLen) :
    Calls Tryz.prog 47 #[.string s, .int .u8 (d.toNat : Int)] w fun e w' => e = .returned (.tuple #[.string (mkB (upTo d s.data.toList)), .bool (s.data.toList.contains d)]) ∧ w = w' := by
  unfold maxLen at hs
  have H0 : Hid ((s.data.toList.take 0).contains d = false) := Lib.hid (by simp)
  obtain ⟨u, hu⟩ : ∃ u, mkB (upTo d s.data.toList) = u := ⟨_, rfl⟩
  obtain ⟨bb, hbb⟩ : ∃ bb, s.data.toList.contains d = bb := ⟨_, rfl⟩
  have HU := Lib.hid hu
  have HV := Lib.hid hbb
  rw [hu, hbb]
  clear hu hbb
  go_enter Tryz.func47, Tryz.ntmps47
  go_wp2
  go_loopw [6] (fun i wr => ∃ k : Nat, k ≤ s.size ∧ i = .int .i64 k ∧ Hid ((s.data.toList.take k).contains d = false) ∧ w = wr) (fun i _ => s.size - (intOf i).toNat)
  case atStart => exact ⟨0, by omega, rfl, H0, rfl⟩
  case round =>
    clear H0
    obtain ⟨k, hk, rfl, HN, rfl⟩ := hrel
    by_cases hlt : k < s.size
    · have hkl : k < s.data.toList.length := by simpa using hlt
      have hat := list_at s k hlt
      have q1 : (0 : Int) ≤ k := by omega
      have q2 : (k : Int) < s.size := by omega
      have hby := byte_le s k hlt
      by_cases he : s[k]'hlt = d
      · obtain ⟨h1, h2, h3⟩ := upTo_hit hkl HN.out (hat.trans he)
        have e1 : ((s[k]'hlt).toNat : Int) = (d.toNat : Int) := by rw [he]
        have hsl : ∀ W : World, (Instr.slice 9 (.string s) none (some (.int .i64 (k : Int))) none).run Tryz.prog W = .ok (.string (mkB (s.data.toList.take k))) W := fun W => by
          rw [run_slice_string_h (ht := Tryz.underlying9) (h0 := by omega) (h2 := by omega)]
          congr 2
          show s.extract 0 k = _
          rw [← mkB_self (s.extract 0 k), Lib.extract_from_zero]
        obtain rfl : mkB (s.data.toList.take k) = u := by rw [← HU.out, h1]
        obtain rfl : true = bb := by rw [← HV.out, h3]
        clear h1 h2 h3 hat he HN HU HV
        go_wp2
        go_ret2
        exact ⟨rfl, rfl⟩
      · have HN2 := Lib.hid (no_next hkl HN.out (by rw [hat]; exact he))
        have e1 : ¬ ((s[k]'hlt).toNat : Int) = (d.toNat : Int) := fun e => he (UInt8.toNat_inj.1 (by omega))
        clear hat he HN
        go_wp2
        go_roundw
        case rel => exact ⟨k + 1, by omega, by go_num, HN2, by first | rfl | trivial⟩
        case measure => simp [intOf]; omega
    · have hn : s.data.toList.contains d = false := by
        have := HN.out
        rwa [List.take_of_length_le (by simp; omega)] at this
      have q2 : ¬ (k : Int) < s.size := by omega
      obtain rfl : s = u := by rw [← HU.out, upTo_none hn, mkB_self]
      obtain rfl : false = bb := by rw [← HV.out, hn]
      clear hn HN HU HV
      go_wp2
      go_ret2
      exact ⟨rfl, rfl⟩
set_option maxHeartbeats 1600000 in
set_option maxRecDepth 100000 in
theorem ebegins_any (s t : ByteArray) (w : World) (_hs : s.size ≤ maxLen) (ht : t.size ≤ maxLen) :
    Calls Tryz.prog 48 #[.string s, .string t] w fun e w' => e = .returned (.bool (decide (t.data.toList.length ≤ s.data.toList.length) && (s.data.toList.take t.data.toList.length == t.data.toList))) ∧ w = w' := by
  unfold maxLen at ht
  rw [show t.data.toList.length = t.size by simp, show s.data.toList.length = s.size by simp]
  by_cases h : t.size ≤ s.size
  · have q1 : (t.size : Int) ≤ s.size := by omega
    have hsl : ∀ W : World, (Instr.slice 9 (.string s) none (some (.int .i64 (t.size : Int))) none).run Tryz.prog W = .ok (.string (s.extract 0 t.size)) W := fun W => by
      rw [run_slice_string_h (ht := Tryz.underlying9) (h0 := by omega) (h2 := by omega)]
      rfl
    have he : ((s.extract 0 t.size).toList == t.toList) = (s.data.toList.take t.size == t.data.toList) := by rw [Lib.toList_data, Lib.toList_data, Lib.extract_from_zero]
    rw [decide_eq_true h, Bool.true_and, ← he]
    clear he
    generalize s.extract 0 t.size = u at *
    clear h
    go_enter Tryz.func48, Tryz.ntmps48
    go_wp2
    go_ret
    exact ⟨rfl, rfl⟩
  · have q1 : ¬ (t.size : Int) ≤ s.size := by omega
    rw [decide_eq_false h, Bool.false_and]
    clear h
    go_enter Tryz.func48, Tryz.ntmps48
    go_wp2
    go_ret
    exact ⟨rfl, rfl⟩
end Go.Proofs.YtbgoooljkdjjhaaGreatDoor
