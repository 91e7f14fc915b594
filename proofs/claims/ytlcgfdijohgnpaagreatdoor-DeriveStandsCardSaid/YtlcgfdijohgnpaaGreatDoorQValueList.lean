/-
  ValueList.
-/
import Derived.Test.YtlcgfdijohgnpaaGreatDoorQValueBox
import Derived.Test.YtlcgfdijohgnpaaGreatDoorQValueLib
namespace Go.Proofs.YtlcgfdijohgnpaaGreatDoor
open Go.ChangeShapes Go.WideShapes Go.ChangeAt Go.RowKit

theorem decode_span (s : ByteArray) (pos : Nat) (h : pos < s.size) :
    pos + (Utf8.decode s pos).2 ≤ s.size ∧ 1 ≤ (Utf8.decode s pos).2 ∧ ∀ j, 1 ≤ j → j < (Utf8.decode s pos).2 → (s.get! (pos + j)).toNat / 64 = 2 := by
  unfold Utf8.decode
  dsimp only
  split
  · exact ⟨by simp only; omega, by simp, fun j h1 h2 => by simp only at h2; omega⟩
  split
  · rename_i hc
    simp only [Bool.and_eq_true, decide_eq_true_eq, beq_iff_eq] at hc
    split
    · exact ⟨by simp only; omega, by simp, fun j h1 h2 => by simp only at h2; obtain rfl : j = 1 := by omega
                                                             exact hc.2.2⟩
    · exact ⟨by simp only; omega, by simp, fun j h1 h2 => by simp only at h2; omega⟩
  split
  · rename_i hc
    simp only [Bool.and_eq_true, decide_eq_true_eq, beq_iff_eq] at hc
    split
    · exact ⟨by simp only; omega, by simp, fun j h1 h2 => by
        simp only at h2
        rcases (by omega : j = 1 ∨ j = 2) with rfl | rfl
        · exact hc.1.2.2
        · exact hc.2.2⟩
    · exact ⟨by simp only; omega, by simp, fun j h1 h2 => by simp only at h2; omega⟩
  split
  · rename_i hc
    simp only [Bool.and_eq_true, decide_eq_true_eq, beq_iff_eq] at hc
    split
    · exact ⟨by simp only; omega, by simp, fun j h1 h2 => by
        simp only at h2
        rcases (by omega : j = 1 ∨ j = 2 ∨ j = 3) with rfl | rfl | rfl
        · exact hc.1.1.2.2
        · exact hc.1.2.2
        · exact hc.2.2⟩
    · exact ⟨by simp only; omega, by simp, fun j h1 h2 => by simp only at h2; omega⟩
  · exact ⟨by simp only; omega, by simp, fun j h1 h2 => by simp only at h2; omega⟩

theorem get_elem (s : ByteArray) (k : Nat) (h : k < s.size) : s.get! k = s[k] := by
  simp [ByteArray.get!, getElem!_pos, h]
  rfl
theorem decode_nocomma (s : ByteArray) (pos : Nat) (h : pos < s.size) (hc : ¬ s[pos].toNat = 44) :
    ¬ ((Utf8.decode s pos).1 : Int) = 44 ∧ pos + (Utf8.decode s pos).2 ≤ s.size ∧ 1 ≤ (Utf8.decode s pos).2 ∧ ∀ x ∈ (s.data.toList.drop pos).take (Utf8.decode s pos).2, ¬ x = 44 := by
  obtain ⟨h1, h2, h3⟩ := decode_span s pos h
  refine ⟨?_, h1, h2, fun x hx => ?_⟩
  · by_cases ha : s[pos].toNat < 128
    · rw [decode_ascii s pos h ha]; simp only; omega
    · have := (decode_high s pos h (by omega)).1; omega
  · obtain ⟨j, hj, rfl⟩ := List.mem_iff_getElem.1 hx
    have hj2 : j < (Utf8.decode s pos).2 := by rw [List.length_take] at hj; omega
    rw [List.getElem_take, List.getElem_drop]
    intro e
    have hlt : pos + j < s.size := by omega
    have e2 : s[pos + j] = 44 := e
    rcases Nat.eq_zero_or_pos j with rfl | hp
    · exact hc (by have := congrArg UInt8.toNat e2; simpa using this)
    · have := h3 j hp hj2
      rw [get_elem s _ hlt, e2] at this
      exact absurd this (by decide)

def wordsGo (seg rest : List UInt8) : Bool := match pieces rest with
  | [] => false
  | p :: ps => wordB (seg ++ p) && allWords ps
theorem wordsGo_all (l : List UInt8) : wordsGo [] l = allWords (pieces l) := by
  unfold wordsGo
  cases h : pieces l with
  | nil => exact absurd h (pieces_pos l)
  | cons p ps => simp [allWords]
theorem wordsGo_comma (seg r : List UInt8) : wordsGo seg (44 :: r) = (wordB seg && wordsGo [] r) := by
  rw [wordsGo_all, wordsGo, pieces_comma]; simp
theorem wordsGo_end (seg : List UInt8) : wordsGo seg [] = wordB seg := by simp [wordsGo, pieces, allWords]
theorem wordsGo_cons {c : UInt8} (h : ¬ c = 44) (seg r : List UInt8) : wordsGo seg (c :: r) = wordsGo (seg ++ [c]) r := by
  obtain ⟨p, ps, h1, h2⟩ := pieces_cons (r := r) h
  rw [wordsGo, wordsGo, h1, h2]; simp
theorem wordsGo_skip (cs : List UInt8) (h : ∀ x ∈ cs, ¬ x = 44) (seg r : List UInt8) : wordsGo seg (cs ++ r) = wordsGo (seg ++ cs) r := by
  induction cs generalizing seg with
  | nil => simp
  | cons c cs ih =>
    rw [List.cons_append, wordsGo_cons (h c (List.mem_cons_self)), ih (fun x hx => h x (List.mem_cons_of_mem _ hx))]
    simp
theorem seg_more (l : List UInt8) (b pos m : Nat) (h : b ≤ pos) : (l.drop b).take (pos - b) ++ (l.drop pos).take m = (l.drop b).take (pos + m - b) := by
  have e : l.drop pos = (l.drop b).drop (pos - b) := by rw [List.drop_drop]; congr 1; omega
  rw [e, ← List.take_add]; congr 1; omega

set_option maxHeartbeats 800000 in
set_option maxRecDepth 100000 in
theorem isList_any (s : ByteArray) (w : World) (hT : Tab w) (hs : s.size ≤ maxLen) :
    Calls Tryz.prog 132 #[.string s] w fun e w' => e = .returned (.bool (allWords (pieces s.data.toList))) ∧ Below w.heap.size w w' := by
  unfold maxLen at hs
  have hTi : Hid (∀ p, Tab (w.iter s p)) := Lib.hid fun p => hT.below (below_iter w s p)
  have hSub : Hid (∀ a b, (s.extract a b).size ≤ maxLen) := Lib.hid fun a b => by unfold maxLen; rw [ByteArray.size_extract]; omega
  clear hT
  go_enter Tryz.func132, Tryz.ntmps132
  go_wp2
  go_loopw [3, 4, 5] (fun bg _ _ w' => ∃ b pos : Nat, bg = .int .i64 b ∧ b ≤ pos ∧ pos ≤ s.size ∧ w' = w.iter s pos ∧ Hid (allWords (pieces s.data.toList) = wordsGo ((s.data.toList.drop b).take (pos - b)) (s.data.toList.drop pos))) (fun _ _ _ w' => s.size - w'.iterPos w.heap.size)
  case atStart => exact ⟨0, 0, rfl, by omega, by omega, rfl, Lib.hid (by simp [wordsGo_all])⟩
  case round =>
    obtain ⟨b, pos, rfl, hbp, hk, rfl, HR⟩ := hrel
    by_cases hp : pos < s.size
    · have HD := Lib.hid (drop_byte s pos hp)
      by_cases hc : s[pos].toNat = 44
      · have hnx : ∀ ty, (Instr.next (.pointer (some ⟨w.heap.size, 0, none⟩)) true ty).run Tryz.prog (w.iter s pos) = _ := fun ty => run_next_ascii w s pos ty hp (by omega)
        rw [hc] at hnx
        have HC : Hid (s[pos] = 44) := Lib.hid (UInt8.toNat_inj.1 hc)
        clear hc
        have HX : Hid (allWords (pieces s.data.toList) = (wordB (s.extract b pos).data.toList && wordsGo [] (s.data.toList.drop (pos + 1)))) := Lib.hid (by
          rw [HR.out, HD.out, HC.out, wordsGo_comma, str_extract])
        obtain ⟨v, hv⟩ : ∃ v, wordB (s.extract b pos).data.toList = v := ⟨_, rfl⟩
        have HV := Lib.hid hv
        have q1 : (0 : Int) ≤ b := by omega
        have q2 : (b : Int) ≤ pos := by omega
        have q3 : (pos : Int) ≤ s.size := by omega
        clear hv
        cases v with
        | true =>
          go_wp2_with fail
          refine (isWord_any _ _ (hTi.out _) (hSub.out _ _)).mono ?_
          rintro e w' ⟨rfl, rfl⟩
          rw [HV.out]
          go_wp2
          go_roundw
          case rel => exact ⟨pos + 1, pos + 1, by go_num, by omega, by omega, rfl, Lib.hid (by rw [HX.out, HV.out]; simp)⟩
          case measure => simp; omega
        | false =>
          go_wp2_with fail
          refine (isWord_any _ _ (hTi.out _) (hSub.out _ _)).mono ?_
          rintro e w' ⟨rfl, rfl⟩
          rw [HV.out]
          go_wp2
          go_ret
          exact ⟨ret_bool (by rw [HX.out, HV.out]; rfl), below_iter _ _ _⟩
      · have hnx : ∀ ty, (Instr.next (.pointer (some ⟨w.heap.size, 0, none⟩)) true ty).run Tryz.prog (w.iter s pos) = _ := fun ty => run_next_any w s pos ty hp
        obtain ⟨h1, h2, h3, h4⟩ := decode_nocomma s pos hp hc
        obtain ⟨r, hr⟩ : ∃ r, Utf8.decode s pos = r := ⟨_, rfl⟩
        rw [hr] at hnx h1 h2 h3 h4
        obtain ⟨r1, r2⟩ := r
        simp only at hnx h1 h2 h3 h4
        have HX : Hid (allWords (pieces s.data.toList) = wordsGo ((s.data.toList.drop b).take (pos + r2 - b)) (s.data.toList.drop (pos + r2))) := Lib.hid (by
          rw [HR.out, ← seg_more _ b pos r2 hbp, ← wordsGo_skip _ h4, ← List.drop_drop, List.take_append_drop])
        have d1 : ((r1 : Int) != 44) = true := ne_true h1
        clear hr hc h1 h4
        go_wp2
        go_roundw
        case rel => exact ⟨b, pos + r2, rfl, by omega, h2, rfl, HX⟩
        case measure => simp; omega
    · have hnx : ∀ ty, (Instr.next (.pointer (some ⟨w.heap.size, 0, none⟩)) true ty).run Tryz.prog (w.iter s pos) = _ := fun ty => run_next_end w s pos ty hp
      have hps : pos = s.size := by omega
      have HX : Hid (allWords (pieces s.data.toList) = wordB (s.extract b s.size).data.toList) := Lib.hid (by
        rw [HR.out, hps, show s.data.toList.drop s.size = [] from List.drop_eq_nil_of_le (by simp), wordsGo_end, str_extract])
      have q1 : (0 : Int) ≤ b := by omega
      have q2 : (b : Int) ≤ s.size := by omega
      clear hps
      go_wp2_with fail
      refine (isWord_any _ _ (hTi.out _) (hSub.out _ _)).mono ?_
      rintro e w' ⟨rfl, rfl⟩
      rw [← HX.out]
      go_wp2
      go_ret
      exact ⟨rfl, below_iter _ _ _⟩

theorem textV_cases (s : ByteArray) : (allText s.data.toList = false ∧ textV s.data.toList = 40) ∨ (allText s.data.toList = true ∧ 200 < s.size ∧ textV s.data.toList = 42) ∨ (allText s.data.toList = true ∧ s.size ≤ 200 ∧ textV s.data.toList = 0) := by
  have hl : s.data.toList.length = s.size := by simp
  unfold textV
  cases h : allText s.data.toList with
  | false => exact Or.inl ⟨rfl, by simp⟩
  | true =>
    by_cases h2 : 200 < s.size
    · exact Or.inr (Or.inl ⟨rfl, h2, by rw [if_neg (by simp), if_pos (by omega)]⟩)
    · exact Or.inr (Or.inr ⟨rfl, by omega, by rw [if_neg (by simp), if_neg (by omega)]⟩)
def textR (s : ByteArray) : Val × Int := if textV s.data.toList = 0 then (⟨5, 0, s, []⟩, 0) else (zeroV, textV s.data.toList)

set_option maxHeartbeats 800000 in
set_option maxRecDepth 100000 in
theorem parseText_any (s : ByteArray) (w : World) (hs : s.size ≤ maxLen) :
    Calls Tryz.prog 98 #[.string s] w fun e w' => e = .returned (numR (textR s)) ∧ Below w.heap.size w w' := by
  have HS := Lib.hid hs
  rcases textV_cases s with ⟨ha, hv⟩ | ⟨ha, hl, hv⟩ | ⟨ha, hl, hv⟩
  · have HV : Hid (textR s = (zeroV, 40)) := Lib.hid (by unfold textR; rw [hv]; rfl)
    have HA := Lib.hid ha
    clear ha hv hs
    go_enter Tryz.func98, Tryz.ntmps98
    go_wp2_with fail
    refine (isText_any _ _ HS.out).mono ?_
    rintro e w1 ⟨rfl, hb⟩
    rw [HA.out]
    have HZ : zero4 w1 w.heap.size := (box4_new w _ _ _ _ _).below hb
    have HZZ := Lib.hid (HZ.last (((Below.refl _ _).alloc (Nat.le_refl _) _).trans (hb.mono (by simp))) (Nat.le_refl _))
    clear hb
    obtain ⟨c0, c1, c2, c3, z0, z1, z2, z3⟩ := HZ
    obtain ⟨g0, g1, g2, g3, hB4⟩ := HZZ.out (.int .i64 0) (.int .i64 0) (.string ⟨#[]⟩) (.slice none 0 0)
    have HB := Lib.hid hB4
    clear hB4
    go_wp2
    exact bodyPost_ret (v := .tuple #[.agg #[.int .i64 0, .int .i64 0, .string ⟨#[]⟩, .slice none 0 0], .int .i64 40]) (by simp [results, Tryz.results98, go_sem, g0, g1, g2, g3]) rfl ⟨ret_val (by rw [HV.out]; rfl), HB.out⟩
  · have HV : Hid (textR s = (zeroV, 42)) := Lib.hid (by unfold textR; rw [hv]; rfl)
    have HA := Lib.hid ha
    have d1 : decide (200 < (s.size : Int)) = true := decide_eq_true (by omega)
    clear ha hv hs
    go_enter Tryz.func98, Tryz.ntmps98
    go_wp2_with fail
    refine (isText_any _ _ HS.out).mono ?_
    rintro e w1 ⟨rfl, hb⟩
    rw [HA.out]
    have HZ : zero4 w1 w.heap.size := (box4_new w _ _ _ _ _).below hb
    have HZZ := Lib.hid (HZ.last (((Below.refl _ _).alloc (Nat.le_refl _) _).trans (hb.mono (by simp))) (Nat.le_refl _))
    clear hb
    obtain ⟨c0, c1, c2, c3, z0, z1, z2, z3⟩ := HZ
    obtain ⟨g0, g1, g2, g3, hB4⟩ := HZZ.out (.int .i64 0) (.int .i64 0) (.string ⟨#[]⟩) (.slice none 0 0)
    have HB := Lib.hid hB4
    clear hB4
    go_wp2
    exact bodyPost_ret (v := .tuple #[.agg #[.int .i64 0, .int .i64 0, .string ⟨#[]⟩, .slice none 0 0], .int .i64 42]) (by simp [results, Tryz.results98, go_sem, g0, g1, g2, g3]) rfl ⟨ret_val (by rw [HV.out]; rfl), HB.out⟩
  · have HV : Hid (textR s = (⟨5, 0, s, []⟩, 0)) := Lib.hid (by unfold textR; rw [hv]; rfl)
    have HA := Lib.hid ha
    have d1 : decide (200 < (s.size : Int)) = false := decide_eq_false (by omega)
    clear ha hv hs
    go_enter Tryz.func98, Tryz.ntmps98
    go_wp2_with fail
    refine (isText_any _ _ HS.out).mono ?_
    rintro e w1 ⟨rfl, hb⟩
    rw [HA.out]
    have HB1 := Lib.hid hb
    clear hb
    go_wp2_with fail
    refine (clone_any _ _ (by omega)).mono ?_
    rintro e w2 ⟨rfl, hb2⟩
    have hb := HB1.out.trans (hb2.mono HB1.out.size)
    have HZ : zero4 w2 w.heap.size := (box4_new w _ _ _ _ _).below hb
    have HZZ := Lib.hid (HZ.last (((Below.refl _ _).alloc (Nat.le_refl _) _).trans (hb.mono (by simp))) (Nat.le_refl _))
    clear hb hb2 HB1
    obtain ⟨c0, c1, c2, c3, z0, z1, z2, z3⟩ := HZ
    obtain ⟨g0, g1, g2, g3, hB4⟩ := HZZ.out (.int .i64 5) (.int .i64 0) (.string s) (.slice none 0 0)
    have HB := Lib.hid hB4
    clear hB4
    go_wp2
    exact bodyPost_ret (v := .tuple #[.agg #[.int .i64 5, .int .i64 0, .string s, .slice none 0 0], .int .i64 0]) (by simp [results, Tryz.results98, go_sem, g0, g1, g2, g3]) rfl ⟨ret_val (by rw [HV.out]; rfl), HB.out⟩

end Go.Proofs.YtlcgfdijohgnpaaGreatDoor
