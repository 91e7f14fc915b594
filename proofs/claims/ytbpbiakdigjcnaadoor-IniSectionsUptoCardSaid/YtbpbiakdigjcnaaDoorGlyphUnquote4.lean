/-
  The walks of both 'Unquote's.
-/
import Derived.Test.YtbpbiakdigjcnaaDoorGlyphUnquote3
namespace Go.Proofs.YtbpbiakdigjcnaaDoor
open Go.ChangeShapes Go.WideShapes Go.ChangeAt Go.RowKit

/-- What stands between the quotes, read byte by byte. -/
def unqGo : Nat → List UInt8 → Option (List UInt8)
  | 0, r => if r = [] then some [] else none
  | n + 1, r => if r = [] then some [] else if (nextB r).2 = 0 then none else (unqGo n (r.drop (nextB r).2)).map ((nextB r).1 :: ·)
def inner (l : List UInt8) : List UInt8 := (l.drop 1).take (l.length - 2)
def okq (l : List UInt8) : Bool := decide (2 ≤ l.length ∧ ((bt l 0).toNat : Int) = 34 ∧ ((bt l (l.length - 1)).toNat : Int) = 34)
def unqL (l : List UInt8) : Option (List UInt8) := if okq l = true then unqGo l.length (inner l) else none
def unqEnd : Option (List UInt8) → Ending
  | some x => .returned (.tuple #[str x, .int .i64 0])
  | none => .returned (.tuple #[.string ⟨#[]⟩, .int .i64 20])

theorem unqGo_nil (n : Nat) : unqGo n [] = some [] := by cases n <;> rfl
theorem unqGo_no {n : Nat} {r : List UInt8} (hr : r ≠ []) (h : (nextB r).2 = 0) : unqGo n r = none := by
  cases n with
  | zero => rw [unqGo, if_neg hr]
  | succ n => rw [unqGo, if_neg hr, if_pos h]
theorem unqGo_step {n : Nat} {r : List UInt8} (hr : r ≠ []) (h : ¬ (nextB r).2 = 0) : unqGo (n + 1) r = (unqGo n (r.drop (nextB r).2)).map ((nextB r).1 :: ·) := by
  rw [unqGo, if_neg hr, if_neg h]
theorem numB_le (h l : UInt8) : (numB h l).2 ≤ 4 := by
  unfold numB
  repeat' split
  all_goals simp
theorem nextB_le {r : List UInt8} (hr : r ≠ []) : (nextB r).2 ≤ r.length := by
  have hl : 1 ≤ r.length := by cases r with | nil => exact absurd rfl hr | cons _ _ => simp
  unfold nextB escB
  split
  · split
    · rename_i h; exact h.1
    · split
      · rename_i h; have := numB_le (bt r 2) (bt r 3); omega
      · exact Nat.zero_le _
  · split
    · exact Nat.zero_le _
    · exact hl

def strLen : Value → Nat | .string t => t.size | _ => 0
theorem Own8.after {w0 w w' : World} {v : Value} {l : List UInt8} (h : Own8 w0 w v l) (hb : Below w.heap.size w w') : Own8 w0 w' v l :=
  ⟨h.own.kept (row := none) ⟨hb.os, hb.tape, hb.output, hb.size, fun k hk _ => hb.block k hk⟩ (by cases hv : v.ownBlock <;> simp), h.below.trans (hb.mono h.below.size)⟩

theorem inner_of (s : ByteArray) : (s.extract 1 (s.size - 1)).data.toList = inner s.data.toList := by
  rw [Lib.extract_data, inner]
  congr 1
theorem okq_of (s : ByteArray) (h : 2 ≤ s.size) (h0 : (s[0].toNat : Int) = 34) (h1 : (s[s.size - 1].toNat : Int) = 34) : okq s.data.toList = true := by
  have hl : s.data.toList.length = s.size := by simp
  rw [okq, hl, bt_get s 0 (by omega), bt_get s (s.size - 1) (by omega)]
  exact decide_eq_true ⟨h, h0, h1⟩
theorem okq_short (s : ByteArray) (h : s.size < 2) : okq s.data.toList = false := by
  have hl : s.data.toList.length = s.size := by simp
  rw [okq, hl]; exact decide_eq_false (by omega)
theorem okq_first (s : ByteArray) (h : 2 ≤ s.size) (h0 : ¬ (s[0].toNat : Int) = 34) : okq s.data.toList = false := by
  rw [okq, bt_get s 0 (by omega)]; exact decide_eq_false (fun hh => h0 hh.2.1)
theorem okq_last (s : ByteArray) (h : 2 ≤ s.size) (h1 : ¬ (s[s.size - 1].toNat : Int) = 34) : okq s.data.toList = false := by
  have hl : s.data.toList.length = s.size := by simp
  rw [okq, hl, bt_get s (s.size - 1) (by omega)]; exact decide_eq_false (fun hh => h1 hh.2.2)
theorem unqL_not {l : List UInt8} (h : okq l = false) : unqL l = none := by rw [unqL, h]; rfl
theorem unqL_ok {l : List UInt8} (h : okq l = true) : unqL l = unqGo l.length (inner l) := by rw [unqL, if_pos h]
theorem nonempty_of {t : ByteArray} (h0 : 0 < t.size) : t.data.toList ≠ [] := fun e => by
  have hl : t.data.toList.length = t.size := by simp
  rw [e] at hl; simp at hl; omega

theorem unq_rel {N n m : Nat} {whole : List UInt8} {t : ByteArray} {acc : List UInt8} {c : UInt8} (h : unqGo N whole = (unqGo (n + 1) t.data.toList).map (acc ++ ·)) (h0 : 0 < t.size) (hp : nextB t.data.toList = (c, m)) (hm : ¬ m = 0) :
    unqGo N whole = (unqGo n (t.extract m t.size).data.toList).map ((acc ++ [c]) ++ ·) := by
  have hr := nonempty_of h0
  have hs : (nextB t.data.toList).2 = m := by rw [hp]
  have hc : (nextB t.data.toList).1 = c := by rw [hp]
  rw [h, unqGo_step hr (by rw [hs]; exact hm), hs, hc, Lib.extract_to_end, Option.map_map]
  congr 1
  funext x
  simp
set_option maxHeartbeats 1600000 in
set_option maxRecDepth 100000 in
theorem unquote_any (s : ByteArray) (w : World) (hs : s.size ≤ 4294967296) :
    Calls Tryd.prog 83 #[.string s] w fun e w' => e = unqEnd (unqL s.data.toList) ∧ Below w.heap.size w w' := by
  by_cases h2 : s.size < 2
  · have HE := Lib.hid (unqL_not (okq_short s h2))
    go_enter Tryd.func83, Tryd.ntmps83
    go_wp2
    go_ret2
    exact ⟨by rw [HE.out]; rfl, Below.refl _ _⟩
  by_cases e0 : ¬ (s[0].toNat : Int) = 34
  · have HE := Lib.hid (unqL_not (okq_first s (by omega) e0))
    have d0 := ne_true e0
    clear e0
    go_enter Tryd.func83, Tryd.ntmps83
    go_wp2
    go_ret2
    exact ⟨by rw [HE.out]; rfl, Below.refl _ _⟩
  replace e0 : (s[0].toNat : Int) = 34 := Decidable.not_not.1 e0
  have d0 := ne_false e0
  have q1 : s.size - 1 < s.size := by omega
  by_cases e1 : ¬ (s[s.size - 1].toNat : Int) = 34
  · have HE := Lib.hid (unqL_not (okq_last s (by omega) e1))
    have d1 := ne_true e1
    clear e0 e1
    go_enter Tryd.func83, Tryd.ntmps83
    go_wp2
    go_ret2
    exact ⟨by rw [HE.out]; rfl, Below.refl _ _⟩
  replace e1 : (s[s.size - 1].toNat : Int) = 34 := Decidable.not_not.1 e1
  have d1 := ne_false e1
  have HE := Lib.hid (unqL_ok (okq_of s (by omega) e0 e1))
  have hsl : ∀ W : World, (Instr.slice 9 (.string s) (some (.int .i64 1)) (some (.int .i64 ((s.size : Int) - 1))) none).run Tryd.prog W = .ok (.string (s.extract 1 (s.size - 1))) W := fun W => by
    rw [run_slice_string (h := Tryd.underlying9) (h0 := by omega) (h1 := by omega) (h2 := by omega)]
    congr 3
    omega
  have hz : (s.extract 1 (s.size - 1)).size = s.size - 2 := by simp; omega
  have HI := Lib.hid (inner_of s)
  generalize s.extract 1 (s.size - 1) = t0 at hsl hz HI
  have hz' : t0.size ≤ s.size := by omega
  have hd2 : decide ((s.size : Int) < 2) = false := by simp; omega
  have HL : Hid (s.data.toList.length = s.size) := Lib.hid (by simp)
  clear e0 e1 hz
  obtain ⟨i0, hi, hz0, hz1, hz2⟩ := info_parts info8
  have H0 := Lib.hid hi
  have H1 := Lib.hid hz0
  have H2 := Lib.hid hz1
  have H3 := Lib.hid hz2
  clear hi hz0 hz1 hz2
  go_enter Tryd.func83, Tryd.ntmps83
  go_wp2_with (at_make; refine wpList_make_own _ rfl _ _ 32 rfl w.heap.size 5 i0 (.int .u8 0) 1 Tryd.underlying32 H0.out H1.out H2.out .i64 .i64 _ t0.size rfl rfl rfl (by rw [H3.out]; omega) (by unfold maxLen; omega) (Nat.le_refl _) ?_; intro w1 h1 h2'; have ho := Own8.made (Below.refl _ _) h1 h2'; clear h1 h2')
  clear H0 H1 H2 H3 hsl
  go_loopw [4, 5] (fun r v wr => ∃ (t : ByteArray) (acc : List UInt8) (n : Nat), r = .string t ∧ t.size ≤ n ∧ acc.length + t.size ≤ s.size ∧ Own8 w wr v acc ∧ Hid (unqGo s.size (inner s.data.toList) = (unqGo n t.data.toList).map (acc ++ ·))) (fun r _ _ => strLen r)
  case atStart => exact ⟨t0, [], s.size, rfl, hz', by simpa using hz', ho, Lib.hid (by rw [HI.out]; simp)⟩
  case round =>
    clear ho
    obtain ⟨t, acc, n, rfl, hn, hlen, ho, HR⟩ := hrel
    by_cases hlt : 0 < t.size
    · obtain ⟨c, m, hp⟩ : ∃ c m, nextB t.data.toList = (c, m) := ⟨_, _, rfl⟩
      have HP := Lib.hid hp
      have hmle : m ≤ t.size := by have := nextB_le (nonempty_of hlt); rw [hp] at this; simpa using this
      clear hp
      by_cases hm : m = 0
      · subst hm
        have HF : Hid (unqL s.data.toList = none) := Lib.hid (by
          rw [HE.out, HL.out, HR.out, unqGo_no (nonempty_of hlt) (by rw [HP.out])]; rfl)
        go_wp2_with (go_at_call 94; refine (next_any t _ (by unfold maxLen; omega) hlt).mono ?_; rintro e w2 ⟨rfl, hb⟩; rw [HP.out]; simp only [pair])
        go_ret2
        exact ⟨by rw [HF.out]; rfl, (ho.after hb).below⟩
      · have hm0 : ((m : Int) == 0) = false := beq_eq_false_iff_ne.2 (by omega)
        obtain ⟨n', rfl⟩ : ∃ n', n = n' + 1 := ⟨n - 1, by omega⟩
        have HR2 := Lib.hid (unq_rel HR.out hlt HP.out hm)
        have hsz : (t.extract m t.size).size = t.size - m := by simp
        have HZ := Lib.hid hsz
        have hm1 : 1 ≤ m := by omega
        clear hm hsz
        go_wp2_with (first
          | (go_at_call 94; refine (next_any t _ (by unfold maxLen; omega) hlt).mono ?_; rintro e w2 ⟨rfl, hb⟩; rw [HP.out]; simp only [pair]; have ho1 := ho.after hb)
          | (at_builtin; refine append8 rfl _ _ rfl ho1 rfl [c] _ rfl rfl rfl rfl (by simp; omega) ?_; intro v3 w3 ho3))
        go_roundw
        case rel => exact ⟨t.extract m t.size, acc ++ [c], n', rfl, by rw [HZ.out]; omega, by rw [HZ.out]; simp; omega, ho3, HR2⟩
        case measure => simp only [strLen]; rw [HZ.out]; omega
    · have ht : t.data.toList = [] := by
        exact List.eq_nil_of_length_eq_zero (by rw [show t.data.toList.length = t.size from by simp]; omega)
      have HF : Hid (unqL s.data.toList = some acc) := Lib.hid (by rw [HE.out, HL.out, HR.out, ht, unqGo_nil]; simp)
      have hst := ho.string 9 32 Tryd.underlying9 Tryd.underlying32 Tryd.underlying5
      clear ht
      go_wp2
      go_ret2
      exact ⟨by rw [HF.out]; rfl, ho.below⟩

set_option maxHeartbeats 1600000 in
set_option maxRecDepth 100000 in
theorem refUnquote_any (s : ByteArray) (w : World) (hs : s.size ≤ 4294967296) :
    Calls Tryd.prog 57 #[.string s] w fun e w' => e = unqEnd (unqL s.data.toList) ∧ Below w.heap.size w w' := by
  by_cases h2 : s.size < 2
  · have HE := Lib.hid (unqL_not (okq_short s h2))
    go_enter Tryd.func57, Tryd.ntmps57
    go_wp2
    go_ret2
    exact ⟨by rw [HE.out]; rfl, Below.refl _ _⟩
  by_cases e0 : ¬ (s[0].toNat : Int) = 34
  · have HE := Lib.hid (unqL_not (okq_first s (by omega) e0))
    have d0 := ne_true e0
    clear e0
    go_enter Tryd.func57, Tryd.ntmps57
    go_wp2
    go_ret2
    exact ⟨by rw [HE.out]; rfl, Below.refl _ _⟩
  replace e0 : (s[0].toNat : Int) = 34 := Decidable.not_not.1 e0
  have d0 := ne_false e0
  have q1 : s.size - 1 < s.size := by omega
  by_cases e1 : ¬ (s[s.size - 1].toNat : Int) = 34
  · have HE := Lib.hid (unqL_not (okq_last s (by omega) e1))
    have d1 := ne_true e1
    clear e0 e1
    go_enter Tryd.func57, Tryd.ntmps57
    go_wp2
    go_ret2
    exact ⟨by rw [HE.out]; rfl, Below.refl _ _⟩
  replace e1 : (s[s.size - 1].toNat : Int) = 34 := Decidable.not_not.1 e1
  have d1 := ne_false e1
  have HE := Lib.hid (unqL_ok (okq_of s (by omega) e0 e1))
  have hsl : ∀ W : World, (Instr.slice 9 (.string s) (some (.int .i64 1)) (some (.int .i64 ((s.size : Int) - 1))) none).run Tryd.prog W = .ok (.string (s.extract 1 (s.size - 1))) W := fun W => by
    rw [run_slice_string (h := Tryd.underlying9) (h0 := by omega) (h1 := by omega) (h2 := by omega)]
    congr 3
    omega
  have hz : (s.extract 1 (s.size - 1)).size = s.size - 2 := by simp; omega
  have HI := Lib.hid (inner_of s)
  generalize s.extract 1 (s.size - 1) = t0 at hsl hz HI
  have hz' : t0.size ≤ s.size := by omega
  have hd2 : decide ((s.size : Int) < 2) = false := by simp; omega
  have HL : Hid (s.data.toList.length = s.size) := Lib.hid (by simp)
  clear e0 e1 hz
  go_enter Tryd.func57, Tryd.ntmps57
  have ho := Own8.nil_ w
  go_wp2
  clear hsl
  go_loopw [0, 4] (fun r v wr => ∃ (t : ByteArray) (acc : List UInt8) (n : Nat), r = .string t ∧ t.size ≤ n ∧ acc.length + t.size ≤ s.size ∧ Own8 w wr v acc ∧ Hid (unqGo s.size (inner s.data.toList) = (unqGo n t.data.toList).map (acc ++ ·))) (fun r _ _ => strLen r)
  case atStart => exact ⟨t0, [], s.size, rfl, hz', by simpa using hz', ho, Lib.hid (by rw [HI.out]; simp)⟩
  case round =>
    clear ho
    obtain ⟨t, acc, n, rfl, hn, hlen, ho, HR⟩ := hrel
    by_cases hlt : 0 < t.size
    · have hne : t.toList.isEmpty = false := by rw [Lib.toList_data]; simpa using nonempty_of hlt
      obtain ⟨c, m, hp⟩ : ∃ c m, nextB t.data.toList = (c, m) := ⟨_, _, rfl⟩
      have HP := Lib.hid hp
      have hmle : m ≤ t.size := by have := nextB_le (nonempty_of hlt); rw [hp] at this; simpa using this
      clear hp
      by_cases hm : m = 0
      · subst hm
        have HF : Hid (unqL s.data.toList = none) := Lib.hid (by
          rw [HE.out, HL.out, HR.out, unqGo_no (nonempty_of hlt) (by rw [HP.out])]; rfl)
        go_wp2_with (go_at_call 76; refine (refNext_any t _ (by unfold maxLen; omega) hlt).mono ?_; rintro e w2 ⟨rfl, rfl⟩; rw [HP.out]; simp only [pair])
        go_ret2
        exact ⟨by rw [HF.out]; rfl, ho.below⟩
      · have hm0 : ((m : Int) == 0) = false := beq_eq_false_iff_ne.2 (by omega)
        obtain ⟨n', rfl⟩ : ∃ n', n = n' + 1 := ⟨n - 1, by omega⟩
        have HR2 := Lib.hid (unq_rel HR.out hlt HP.out hm)
        have hsz : (t.extract m t.size).size = t.size - m := by simp
        have HZ := Lib.hid hsz
        have hm1 : 1 ≤ m := by omega
        clear hm hsz
        go_wp2_with (first
          | (go_at_call 76; refine (refNext_any t _ (by unfold maxLen; omega) hlt).mono ?_; rintro e w2 ⟨rfl, rfl⟩; rw [HP.out]; simp only [pair])
          | (at_builtin; refine append8 rfl _ _ rfl ho rfl [c] _ rfl rfl rfl rfl (by simp; omega) ?_; intro v3 w3 ho3))
        go_roundw
        case rel => exact ⟨t.extract m t.size, acc ++ [c], n', rfl, by rw [HZ.out]; omega, by rw [HZ.out]; simp; omega, ho3, HR2⟩
        case measure => simp only [strLen]; rw [HZ.out]; omega
    · have ht : t.data.toList = [] := by
        exact List.eq_nil_of_length_eq_zero (by rw [show t.data.toList.length = t.size from by simp]; omega)
      have HF : Hid (unqL s.data.toList = some acc) := Lib.hid (by rw [HE.out, HL.out, HR.out, ht, unqGo_nil]; simp)
      have hst := ho.string 9 32 Tryd.underlying9 Tryd.underlying32 Tryd.underlying5
      have hne : t.toList.isEmpty = true := by rw [Lib.toList_data, ht]; rfl
      clear ht
      go_wp2
      go_ret2
      exact ⟨by rw [HF.out]; rfl, ho.below⟩
end Go.Proofs.YtbpbiakdigjcnaaDoor
