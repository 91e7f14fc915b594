/-
  The walk of the law GlyphBack.
-/
import Derived.Test.YtlmjgekpbmialaaDoorGlyphAwake
import Derived.Test.YtlmjgekpbmialaaDoorGlyphMath
namespace Go.Proofs.YtlmjgekpbmialaaDoor
open Go.ChangeShapes Go.WideShapes Go.ChangeAt Go.RowKit

theorem mem_byte (q : ByteArray) (k : Nat) (h : k < q.size) : q[k] ∈ q.data.toList := by
  have : q.data.toList[k]'(by simpa using h) = q[k] := rfl
  rw [← this]; exact List.getElem_mem _
theorem named_str (l : List UInt8) : ∃ q : ByteArray, str l = .string q ∧ q.data.toList = l := ⟨⟨l.toArray⟩, rfl, by simp⟩
theorem fold_byte {fo t : ByteArray} (h : fo.data.toList = foldL t.data.toList) {k : Nat} (h1 : k < fo.size) (h2 : k < t.size) : fo[k] = foldB t[k] := by
  have e1 : fo.data.toList[k]? = some fo[k] := by rw [List.getElem?_eq_getElem (by simpa using h1)]; rfl
  have e2 : (foldL t.data.toList)[k]? = some (foldB t[k]) := by
    unfold foldL
    rw [List.getElem?_map, List.getElem?_eq_getElem (by simpa using h2)]; rfl
  rw [h, e2] at e1
  exact (Option.some.inj e1).symm
theorem below_draw {B : Nat} {a w : World} (h : Below B a w) (n : Nat) : Below B a (w.drewN n) := ⟨h.os, h.tape, h.output, h.size, h.block⟩

/-- What 'Unquote' leaves, in numbers and texts. -/
def unqS : Option (List UInt8) → List UInt8
  | some x => x
  | none => []
def unqN : Option (List UInt8) → Int
  | some _ => 0
  | none => 20
theorem unqEnd_is (u : Option (List UInt8)) : unqEnd u = .returned (.tuple #[str (unqS u), .int .i64 (unqN u)]) := by cases u <;> rfl

set_option maxRecDepth 100000 in
set_option maxHeartbeats 6400000 in
theorem back_any (s t : ByteArray) (w : World) (hT : Tab w) (hs : s.size ≤ maxLen) (ht : t.size ≤ maxLen) :
    Calls Tryd.prog 7 #[.string s, .string t] w fun e w' => e = .returned (.bool true) ∧ Below w.heap.size w w' := by
  unfold maxLen at hs ht
  by_cases hbig : 134217727 < (if 2147483647 < (s.size : Int) ∨ 2147483647 < (t.size : Int) then (2147483648 : Int) else s.size + t.size)
  · generalize hn : (if 2147483647 < (s.size : Int) ∨ 2147483647 < (t.size : Int) then (2147483648 : Int) else s.size + t.size) = n at hbig
    have HN := Lib.hid hn
    clear hn
    go_enter Tryd.func7, Tryd.ntmps7
    go_wp2_with (go_at_call 13; refine (addsUp_any _ _ _ (by omega) (by omega)).mono ?_; rintro e w' ⟨rfl, rfl⟩; rw [HN.out])
    go_ret
    exact ⟨rfl, Below.refl _ _⟩
  have hsm : s.size + t.size ≤ 134217727 := by
    split at hbig <;> omega
  have HN : Hid ((if 2147483647 < (s.size : Int) ∨ 2147483647 < (t.size : Int) then (2147483648 : Int) else s.size + t.size) = s.size + t.size) := Lib.hid (if_neg (by omega))
  clear hbig hs ht
  have hls : s.data.toList.length = s.size := by simp
  have hlt : t.data.toList.length = t.size := by simp
  obtain ⟨q, hqv, hql⟩ := named_str (quoteL s.data.toList)
  have hqs : q.size ≤ 4 * s.size + 2 := by
    have h1 := quoteL_len s.data.toList
    have h2 : q.data.toList.length = q.size := by simp
    rw [hql] at h2; omega
  have HQV := Lib.hid hqv
  have HUQ : Hid (unqEnd (unqL q.data.toList) = .returned (.tuple #[.string s, .int .i64 0])) := Lib.hid (by rw [hql, unq_quote, unqEnd_is, ← str_self]; rfl)
  have HQP : Hid (∀ k (h : k < q.size), 32 ≤ (q[k].toNat : Int) ∧ (q[k].toNat : Int) ≤ 126) := Lib.hid (fun k h => quote_print s.data.toList _ (by rw [← hql]; exact mem_byte q k h))
  obtain ⟨fo, hfv, hfl⟩ := named_str (foldL t.data.toList)
  have hfs : fo.size = t.size := by
    have h2 : fo.data.toList.length = fo.size := by simp
    rw [hfl, foldL_length] at h2; omega
  have HFV := Lib.hid hfv
  have HF2 : Hid (str (foldL fo.data.toList) = .string fo) := Lib.hid (by rw [hfl, foldL_twice, hfv])
  have HFL := Lib.hid hfl
  have hfn : ((fo.size : Int) != (t.size : Int)) = false := by simp [hfs]
  have HFS := Lib.hid hfs
  have hfs1 : fo.size ≤ 134217727 := by omega
  clear hqv hql hfv hfl hfs
  obtain ⟨u, hu⟩ : ∃ u, unqL t.data.toList = u := ⟨_, rfl⟩
  have HU := Lib.hid hu
  obtain ⟨v, hvv, hvl⟩ := named_str (unqS u)
  have hvs : v.size ≤ 134217727 := by
    have h2 : v.data.toList.length = v.size := by simp
    rw [hvl] at h2
    cases u with
    | none => simp [unqS] at h2; omega
    | some x => have := unq_len hu; simp only [unqS] at h2; omega
  have HVV := Lib.hid hvv
  obtain ⟨ag, hav, hal⟩ := named_str (quoteL v.data.toList)
  have HAV := Lib.hid hav
  have HFIN : Hid ((unqN u = 0 ∧ ag = t) ∨ (unqN u = 20 ∧ v = ⟨#[]⟩)) := Lib.hid (by
    cases u with
    | none =>
      refine Or.inr ⟨rfl, ?_⟩
      have : Value.string v = .string ⟨#[]⟩ := by rw [← hvv]; rfl
      injection this
    | some x =>
      refine Or.inl ⟨rfl, ?_⟩
      have h1 := quote_unq hu
      have : Value.string ag = .string t := by rw [← hav, hvl, unqS, h1, str_self]
      injection this)
  have HW := Lib.hid (name_word (l := t.data.toList))
  obtain ⟨nm, hnm⟩ : ∃ b, nameB t.data.toList = b := ⟨_, rfl⟩
  obtain ⟨wd, hwd⟩ : ∃ b, wordB t.data.toList = b := ⟨_, rfl⟩
  have HNM := Lib.hid hnm
  have HWD := Lib.hid hwd
  have HWN : Hid (nm = true → wd = true) := Lib.hid (fun h => by rw [← hwd]; exact name_word (by rw [hnm]; exact h))
  generalize hun : unqN u = n at HFIN
  have HUN := Lib.hid hun
  clear hu hvv hvl hav hal hnm hwd hls hlt hun HW
  go_enter Tryd.func7, Tryd.ntmps7
  go_wp2_with (first
    | (go_at_call 13; refine (addsUp_any _ _ _ (by omega) (by omega)).mono ?_; rintro e w' ⟨rfl, rfl⟩; rw [HN.out])
    | (go_at_call 8; refine (awake_any _ hT).mono ?_; rintro e w1 ⟨rfl, hb1⟩)
    | (go_at_call 17; refine (quote_any s _ (by omega)).mono ?_; rintro e w2 ⟨rfl, hb2⟩; rw [HQV.out])
    | (go_at_call 18; refine (unquote_any q _ (by omega)).mono ?_; rintro e w3 ⟨rfl, hb3⟩; rw [HUQ.out]))
  have hB : Below w.heap.size w w3 := (hb1.trans (hb2.mono hb1.size)).trans (hb3.mono (Nat.le_trans hb1.size hb2.size))
  clear hb1 hb2 hb3
  have hs3 := hB.size
  go_loop [9] (fun i => ∃ k : Nat, k ≤ q.size ∧ i = .int .i64 k) (fun i => q.size - (intOf i).toNat)
  case atStart => exact ⟨0, by omega, rfl⟩
  case round =>
    obtain ⟨k, hk, rfl⟩ := hrel
    by_cases hkq : k < q.size
    · obtain ⟨p1, p2⟩ := HQP.out k hkq
      go_wp2
      go_round
      case rel => exact ⟨k + 1, by omega, by go_num⟩
      case measure => simp [intOf]; omega
    · have hT3 := hT.below hB
      go_wp2_with fail
      refine (unquote_any t _ (by omega)).mono ?_
      rintro e w4 ⟨rfl, hb4⟩
      rw [HU.out, unqEnd_is, HVV.out, HUN.out]
      replace hb4 := hB.trans (hb4.mono hs3)
      go_wp2_with fail
      refine (quote_any v _ (by omega)).mono ?_
      rintro e w5 ⟨rfl, hb5⟩
      rw [HAV.out]
      replace hb5 := hb4.trans (hb5.mono hb4.size)
      clear hb4
      have hT5 := hT.below hb5
      go_wp2_with fail
      refine (isName_any t _ hT5 (by unfold maxLen; omega)).mono ?_
      rintro e w' ⟨rfl, rfl⟩
      rw [HNM.out]
      go_wp2_with fail
      refine (isWord_any t _ hT5 (by unfold maxLen; omega)).mono ?_
      rintro e w' ⟨rfl, rfl⟩
      rw [HWD.out]
      go_wp2_with fail
      refine (fold_any t _ hT5 (by unfold maxLen; omega)).mono ?_
      rintro e w6 ⟨rfl, hb6⟩
      rw [HFV.out]
      replace hb6 := hb5.trans (hb6.mono hb5.size)
      have hT6 := hT.below hb6
      clear hb5 hT5 hT3
      go_wp2_with fail
      refine (fold_any fo _ hT6 (by unfold maxLen; omega)).mono ?_
      rintro e w7 ⟨rfl, hb7⟩
      rw [HF2.out]
      replace hb7 := hb6.trans (hb7.mono hb6.size)
      clear hb6 hT6
      go_wp2
      go_loopw [16] (fun i wr => ∃ k : Nat, k ≤ t.size ∧ i = .int .i64 k ∧ Below w.heap.size w wr) (fun i _ => t.size - (intOf i).toNat)
      case atStart => exact ⟨0, by omega, rfl, hb7⟩
      case round =>
        clear hb7
        obtain ⟨j, hj, rfl, hb⟩ := hrel
        have hTr := hT.below hb
        by_cases hjt : j < t.size
        · have hjf : j < fo.size := by rw [HFS.out]; exact hjt
          have hby := byte_le t j hjt
          have hbf := byte_le fo j hjf
          have hfb := fold_byte HFL.out hjf hjt
          have hcl := foldB_class t[j]
          have d1 : (cls (fo[j].toNat : Int) == 2) = false := beq_eq_false_iff_ne.2 (by rw [hfb]; exact hcl.1)
          by_cases hc : cls t[j].toNat = 2
          · have c1 := ne_false hc
            have c2 : (cls (t[j].toNat : Int) == 2) = true := beq_iff_eq.2 hc
            have c3 : (cls (fo[j].toNat : Int) != 1) = false := ne_false (by rw [hfb]; exact hcl.2 hc)
            have c4 : ((fo[j].toNat : Int) != (t[j].toNat : Int) + 32) = false := ne_false (by rw [hfb]; exact foldB_great hc)
            obtain ⟨g1, g2⟩ := cls_great hc
            have hwr : IntKind.u8.wrap ((t[j].toNat : Int) + 32) = (t[j].toNat : Int) + 32 := IntWalk.u8_in _ (by omega)
            have q1 : (0 : Int) ≤ j := by omega
            have q2 : (j : Int) < t.size := by omega
            have q3 : (j : Int) < fo.size := by omega
            clear hfb hcl hc
            go_wp2_with (go_at_call 9; refine (class_any _ _ hTr).mono ?_; rintro e w' ⟨rfl, rfl⟩)
            go_quiet (fail)
            clear hwr
            go_wp2
            go_roundw
            case rel => exact ⟨j + 1, by omega, by go_num, below_draw hb _⟩
            case measure => simp [intOf]; omega
          · have c1 := ne_true hc
            have c2 : (cls (t[j].toNat : Int) == 2) = false := beq_eq_false_iff_ne.2 hc
            have c4 : ((fo[j].toNat : Int) != (t[j].toNat : Int)) = false := ne_false (by rw [hfb, foldB_other hc])
            have q1 : (0 : Int) ≤ j := by omega
            have q2 : (j : Int) < t.size := by omega
            have q3 : (j : Int) < fo.size := by omega
            clear hfb hcl hc
            go_wp2_with (go_at_call 9; refine (class_any _ _ hTr).mono ?_; rintro e w' ⟨rfl, rfl⟩)
            go_quiet (fail)
            go_wp2
            go_roundw
            case rel => exact ⟨j + 1, by omega, by go_num, below_draw hb _⟩
            case measure => simp [intOf]; omega
        · rcases HFIN.out with ⟨h1, h2⟩ | ⟨h1, h2⟩
          all_goals
            clear HFIN HUN HU HVV HAV HNM HWD
            subst h1 h2
            cases nm with
            | true =>
              have hw := HWN.out rfl
              subst hw
              go_wp2
              go_ret
              exact ⟨rfl, hb⟩
            | false =>
              go_wp2
              go_ret
              exact ⟨rfl, hb⟩
end Go.Proofs.YtlmjgekpbmialaaDoor
