/-
  ValueList, RefsPieces.
-/
import Derived.Test.YtopghlnoklajkaaGreatDoorQRowOps
import Derived.Test.YtopghlnoklajkaaGreatDoorQValueLib
import Derived.Test.YtopghlnoklajkaaGreatDoorQRefsRow
import Derived.Deep.RegionLaw
namespace Go.Proofs.YtopghlnoklajkaaGreatDoor
open Go.ChangeShapes Go.WideShapes Go.ChangeAt Go.RowKit

theorem decode_span (s : ByteArray) (pos : Nat) (h : pos < s.size) :
    pos + (Utf8.decode s pos).2 ≤ s.size ∧ 1 ≤ (Utf8.decode s pos).2 ∧ ∀ j, 1 ≤ j → j < (Utf8.decode s pos).2 → (s.get! (pos + j)).toNat / 64 = 2 := by
  unfold Utf8.decode
  dsimp only
  split
  · exact ⟨by simp only; omega, by simp, fun j h1 h2 => by simp only at h2; omega⟩
  split
  · rename_i hc
    simp only [Bool.and_eq_true, decide_eq_true_eq, beq_iff_eq] at hc
    split
    · exact ⟨by simp only; omega, by simp, fun j h1 h2 => by simp only at h2; obtain rfl : j = 1 := by omega
                                                             exact hc.2.2⟩
    · exact ⟨by simp only; omega, by simp, fun j h1 h2 => by simp only at h2; omega⟩
  split
  · rename_i hc
    simp only [Bool.and_eq_true, decide_eq_true_eq, beq_iff_eq] at hc
    split
    · exact ⟨by simp only; omega, by simp, fun j h1 h2 => by
        simp only at h2
        rcases (by omega : j = 1 ∨ j = 2) with rfl | rfl
        · exact hc.1.2.2
        · exact hc.2.2⟩
    · exact ⟨by simp only; omega, by simp, fun j h1 h2 => by simp only at h2; omega⟩
  split
  · rename_i hc
    simp only [Bool.and_eq_true, decide_eq_true_eq, beq_iff_eq] at hc
    split
    · exact ⟨by simp only; omega, by simp, fun j h1 h2 => by
        simp only at h2
        rcases (by omega : j = 1 ∨ j = 2 ∨ j = 3) with rfl | rfl | rfl
        · exact hc.1.1.2.2
        · exact hc.1.2.2
        · exact hc.2.2⟩
    · exact ⟨by simp only; omega, by simp, fun j h1 h2 => by simp only at h2; omega⟩
  · exact ⟨by simp only; omega, by simp, fun j h1 h2 => by simp only at h2; omega⟩

theorem get_elem (s : ByteArray) (k : Nat) (h : k < s.size) : s.get! k = s[k] := by
  simp [ByteArray.get!, getElem!_pos, h]
  rfl
theorem decode_nocomma (s : ByteArray) (pos : Nat) (h : pos < s.size) (hc : ¬ s[pos].toNat = 44) :
    ¬ ((Utf8.decode s pos).1 : Int) = 44 ∧ pos + (Utf8.decode s pos).2 ≤ s.size ∧ 1 ≤ (Utf8.decode s pos).2 ∧ ∀ x ∈ (s.data.toList.drop pos).take (Utf8.decode s pos).2, ¬ x = 44 := by
  obtain ⟨h1, h2, h3⟩ := decode_span s pos h
  refine ⟨?_, h1, h2, fun x hx => ?_⟩
  · by_cases ha : s[pos].toNat < 128
    · rw [decode_ascii s pos h ha]; simp only; omega
    · have := (decode_high s pos h (by omega)).1; omega
  · obtain ⟨j, hj, rfl⟩ := List.mem_iff_getElem.1 hx
    have hj2 : j < (Utf8.decode s pos).2 := by rw [List.length_take] at hj; omega
    rw [List.getElem_take, List.getElem_drop]
    intro e
    have hlt : pos + j < s.size := by omega
    have e2 : s[pos + j] = 44 := e
    rcases Nat.eq_zero_or_pos j with rfl | hp
    · exact hc (by have := congrArg UInt8.toNat e2; simpa using this)
    · have := h3 j hp hj2
      rw [get_elem s _ hlt, e2] at this
      exact absurd this (by decide)

def wordsGo (seg rest : List UInt8) : Bool := match pieces rest with
  | [] => false
  | p :: ps => wordB (seg ++ p) && allWords ps
theorem wordsGo_all (l : List UInt8) : wordsGo [] l = allWords (pieces l) := by
  unfold wordsGo
  cases h : pieces l with
  | nil => exact absurd h (pieces_pos l)
  | cons p ps => simp [allWords]
theorem wordsGo_comma (seg r : List UInt8) : wordsGo seg (44 :: r) = (wordB seg && wordsGo [] r) := by
  rw [wordsGo_all, wordsGo, pieces_comma]; simp
theorem wordsGo_end (seg : List UInt8) : wordsGo seg [] = wordB seg := by simp [wordsGo, pieces, allWords]
theorem wordsGo_cons {c : UInt8} (h : ¬ c = 44) (seg r : List UInt8) : wordsGo seg (c :: r) = wordsGo (seg ++ [c]) r := by
  obtain ⟨p, ps, h1, h2⟩ := pieces_cons (r := r) h
  rw [wordsGo, wordsGo, h1, h2]; simp
theorem wordsGo_skip (cs : List UInt8) (h : ∀ x ∈ cs, ¬ x = 44) (seg r : List UInt8) : wordsGo seg (cs ++ r) = wordsGo (seg ++ cs) r := by
  induction cs generalizing seg with
  | nil => simp
  | cons c cs ih =>
    rw [List.cons_append, wordsGo_cons (h c (List.mem_cons_self)), ih (fun x hx => h x (List.mem_cons_of_mem _ hx))]
    simp
theorem seg_more (l : List UInt8) (b pos m : Nat) (h : b ≤ pos) : (l.drop b).take (pos - b) ++ (l.drop pos).take m = (l.drop b).take (pos + m - b) := by
  have e : l.drop pos = (l.drop b).drop (pos - b) := by rw [List.drop_drop]; congr 1; omega
  rw [e, ← List.take_add]; congr 1; omega

set_option maxHeartbeats 800000 in
set_option maxRecDepth 100000 in
theorem isList_any (s : ByteArray) (w : World) (hT : Tab w) (hs : s.size ≤ maxLen) :
    Calls Tryz.prog 147 #[.string s] w fun e w' => e = .returned (.bool (allWords (pieces s.data.toList))) ∧ Below w.heap.size w w' := by
  unfold maxLen at hs
  have hTi : Hid (∀ p, Tab (w.iter s p)) := Lib.hid fun p => hT.below (below_iter w s p)
  have hSub : Hid (∀ a b, (s.extract a b).size ≤ maxLen) := Lib.hid fun a b => by unfold maxLen; rw [ByteArray.size_extract]; omega
  clear hT
  go_enter Tryz.func147, Tryz.ntmps147
  go_wp2
  go_loopw [3, 4, 5] (fun bg _ _ w' => ∃ b pos : Nat, bg = .int .i64 b ∧ b ≤ pos ∧ pos ≤ s.size ∧ w' = w.iter s pos ∧ Hid (allWords (pieces s.data.toList) = wordsGo ((s.data.toList.drop b).take (pos - b)) (s.data.toList.drop pos))) (fun _ _ _ w' => s.size - w'.iterPos w.heap.size)
  case atStart => exact ⟨0, 0, rfl, by omega, by omega, rfl, Lib.hid (by simp [wordsGo_all])⟩
  case round =>
    obtain ⟨b, pos, rfl, hbp, hk, rfl, HR⟩ := hrel
    by_cases hp : pos < s.size
    · have HD := Lib.hid (drop_byte s pos hp)
      by_cases hc : s[pos].toNat = 44
      · have hnx : ∀ ty, (Instr.next (.pointer (some ⟨w.heap.size, 0, none⟩)) true ty).run Tryz.prog (w.iter s pos) = _ := fun ty => run_next_ascii w s pos ty hp (by omega)
        rw [hc] at hnx
        have HC : Hid (s[pos] = 44) := Lib.hid (UInt8.toNat_inj.1 hc)
        clear hc
        have HX : Hid (allWords (pieces s.data.toList) = (wordB (s.extract b pos).data.toList && wordsGo [] (s.data.toList.drop (pos + 1)))) := Lib.hid (by
          rw [HR.out, HD.out, HC.out, wordsGo_comma, str_extract])
        obtain ⟨v, hv⟩ : ∃ v, wordB (s.extract b pos).data.toList = v := ⟨_, rfl⟩
        have HV := Lib.hid hv
        have q1 : (0 : Int) ≤ b := by omega
        have q2 : (b : Int) ≤ pos := by omega
        have q3 : (pos : Int) ≤ s.size := by omega
        clear hv
        cases v with
        | true =>
          go_wp2_with fail
          refine (isWord_any _ _ (hTi.out _) (hSub.out _ _)).mono ?_
          rintro e w' ⟨rfl, rfl⟩
          rw [HV.out]
          go_wp2
          go_roundw
          case rel => exact ⟨pos + 1, pos + 1, by go_num, by omega, by omega, rfl, Lib.hid (by rw [HX.out, HV.out]; simp)⟩
          case measure => simp; omega
        | false =>
          go_wp2_with fail
          refine (isWord_any _ _ (hTi.out _) (hSub.out _ _)).mono ?_
          rintro e w' ⟨rfl, rfl⟩
          rw [HV.out]
          go_wp2
          go_ret
          exact ⟨ret_bool (by rw [HX.out, HV.out]; rfl), below_iter _ _ _⟩
      · have hnx : ∀ ty, (Instr.next (.pointer (some ⟨w.heap.size, 0, none⟩)) true ty).run Tryz.prog (w.iter s pos) = _ := fun ty => run_next_any w s pos ty hp
        obtain ⟨h1, h2, h3, h4⟩ := decode_nocomma s pos hp hc
        obtain ⟨r, hr⟩ : ∃ r, Utf8.decode s pos = r := ⟨_, rfl⟩
        rw [hr] at hnx h1 h2 h3 h4
        obtain ⟨r1, r2⟩ := r
        simp only at hnx h1 h2 h3 h4
        have HX : Hid (allWords (pieces s.data.toList) = wordsGo ((s.data.toList.drop b).take (pos + r2 - b)) (s.data.toList.drop (pos + r2))) := Lib.hid (by
          rw [HR.out, ← seg_more _ b pos r2 hbp, ← wordsGo_skip _ h4, ← List.drop_drop, List.take_append_drop])
        have d1 : ((r1 : Int) != 44) = true := ne_true h1
        clear hr hc h1 h4
        go_wp2
        go_roundw
        case rel => exact ⟨b, pos + r2, rfl, by omega, h2, rfl, HX⟩
        case measure => simp; omega
    · have hnx : ∀ ty, (Instr.next (.pointer (some ⟨w.heap.size, 0, none⟩)) true ty).run Tryz.prog (w.iter s pos) = _ := fun ty => run_next_end w s pos ty hp
      have hps : pos = s.size := by omega
      have HX : Hid (allWords (pieces s.data.toList) = wordB (s.extract b s.size).data.toList) := Lib.hid (by
        rw [HR.out, hps, show s.data.toList.drop s.size = [] from List.drop_eq_nil_of_le (by simp), wordsGo_end, str_extract])
      have q1 : (0 : Int) ≤ b := by omega
      have q2 : (b : Int) ≤ s.size := by omega
      clear hps
      go_wp2_with fail
      refine (isWord_any _ _ (hTi.out _) (hSub.out _ _)).mono ?_
      rintro e w' ⟨rfl, rfl⟩
      rw [← HX.out]
      go_wp2
      go_ret
      exact ⟨rfl, below_iter _ _ _⟩

theorem textV_cases (s : ByteArray) : (allText s.data.toList = false ∧ textV s.data.toList = 40) ∨ (allText s.data.toList = true ∧ 200 < s.size ∧ textV s.data.toList = 42) ∨ (allText s.data.toList = true ∧ s.size ≤ 200 ∧ textV s.data.toList = 0) := by
  have hl : s.data.toList.length = s.size := by simp
  unfold textV
  cases h : allText s.data.toList with
  | false => exact Or.inl ⟨rfl, by simp⟩
  | true =>
    by_cases h2 : 200 < s.size
    · exact Or.inr (Or.inl ⟨rfl, h2, by rw [if_neg (by simp), if_pos (by omega)]⟩)
    · exact Or.inr (Or.inr ⟨rfl, by omega, by rw [if_neg (by simp), if_neg (by omega)]⟩)
def textR (s : ByteArray) : Val × Int := if textV s.data.toList = 0 then (⟨5, 0, s, []⟩, 0) else (zeroV, textV s.data.toList)

set_option maxHeartbeats 800000 in
set_option maxRecDepth 100000 in
theorem parseText_any (s : ByteArray) (w : World) (hs : s.size ≤ maxLen) :
    Calls Tryz.prog 124 #[.string s] w fun e w' => e = .returned (numR (textR s)) ∧ Below w.heap.size w w' := by
  have HS := Lib.hid hs
  rcases textV_cases s with ⟨ha, hv⟩ | ⟨ha, hl, hv⟩ | ⟨ha, hl, hv⟩
  · have HV : Hid (textR s = (zeroV, 40)) := Lib.hid (by unfold textR; rw [hv]; rfl)
    have HA := Lib.hid ha
    clear ha hv hs
    go_enter Tryz.func124, Tryz.ntmps124
    go_wp2_with fail
    refine (isText_any _ _ HS.out).mono ?_
    rintro e w1 ⟨rfl, hb⟩
    rw [HA.out]
    have HZ : zero4 w1 w.heap.size := (box4_new w _ _ _ _ _).below hb
    have HZZ := Lib.hid (HZ.last (((Below.refl _ _).alloc (Nat.le_refl _) _).trans (hb.mono (by simp))) (Nat.le_refl _))
    clear hb
    obtain ⟨c0, c1, c2, c3, z0, z1, z2, z3⟩ := HZ
    obtain ⟨g0, g1, g2, g3, hB4⟩ := HZZ.out (.int .i64 0) (.int .i64 0) (.string ⟨#[]⟩) (.slice none 0 0)
    have HB := Lib.hid hB4
    clear hB4
    go_wp2
    exact bodyPost_ret (v := .tuple #[.agg #[.int .i64 0, .int .i64 0, .string ⟨#[]⟩, .slice none 0 0], .int .i64 40]) (by simp [results, Tryz.results124, go_sem, g0, g1, g2, g3]) rfl ⟨ret_val (by rw [HV.out]; rfl), HB.out⟩
  · have HV : Hid (textR s = (zeroV, 42)) := Lib.hid (by unfold textR; rw [hv]; rfl)
    have HA := Lib.hid ha
    have d1 : decide (200 < (s.size : Int)) = true := decide_eq_true (by omega)
    clear ha hv hs
    go_enter Tryz.func124, Tryz.ntmps124
    go_wp2_with fail
    refine (isText_any _ _ HS.out).mono ?_
    rintro e w1 ⟨rfl, hb⟩
    rw [HA.out]
    have HZ : zero4 w1 w.heap.size := (box4_new w _ _ _ _ _).below hb
    have HZZ := Lib.hid (HZ.last (((Below.refl _ _).alloc (Nat.le_refl _) _).trans (hb.mono (by simp))) (Nat.le_refl _))
    clear hb
    obtain ⟨c0, c1, c2, c3, z0, z1, z2, z3⟩ := HZ
    obtain ⟨g0, g1, g2, g3, hB4⟩ := HZZ.out (.int .i64 0) (.int .i64 0) (.string ⟨#[]⟩) (.slice none 0 0)
    have HB := Lib.hid hB4
    clear hB4
    go_wp2
    exact bodyPost_ret (v := .tuple #[.agg #[.int .i64 0, .int .i64 0, .string ⟨#[]⟩, .slice none 0 0], .int .i64 42]) (by simp [results, Tryz.results124, go_sem, g0, g1, g2, g3]) rfl ⟨ret_val (by rw [HV.out]; rfl), HB.out⟩
  · have HV : Hid (textR s = (⟨5, 0, s, []⟩, 0)) := Lib.hid (by unfold textR; rw [hv]; rfl)
    have HA := Lib.hid ha
    have d1 : decide (200 < (s.size : Int)) = false := decide_eq_false (by omega)
    clear ha hv hs
    go_enter Tryz.func124, Tryz.ntmps124
    go_wp2_with fail
    refine (isText_any _ _ HS.out).mono ?_
    rintro e w1 ⟨rfl, hb⟩
    rw [HA.out]
    have HB1 := Lib.hid hb
    clear hb
    go_wp2_with fail
    refine (clone_any _ _ (by omega)).mono ?_
    rintro e w2 ⟨rfl, hb2⟩
    have hb := HB1.out.trans (hb2.mono HB1.out.size)
    have HZ : zero4 w2 w.heap.size := (box4_new w _ _ _ _ _).below hb
    have HZZ := Lib.hid (HZ.last (((Below.refl _ _).alloc (Nat.le_refl _) _).trans (hb.mono (by simp))) (Nat.le_refl _))
    clear hb hb2 HB1
    obtain ⟨c0, c1, c2, c3, z0, z1, z2, z3⟩ := HZ
    obtain ⟨g0, g1, g2, g3, hB4⟩ := HZZ.out (.int .i64 5) (.int .i64 0) (.string s) (.slice none 0 0)
    have HB := Lib.hid hB4
    clear hB4
    go_wp2
    exact bodyPost_ret (v := .tuple #[.agg #[.int .i64 5, .int .i64 0, .string s, .slice none 0 0], .int .i64 0]) (by simp [results, Tryz.results124, go_sem, g0, g1, g2, g3]) rfl ⟨ret_val (by rw [HV.out]; rfl), HB.out⟩

end Go.Proofs.YtopghlnoklajkaaGreatDoor

namespace Go.Proofs.YtopghlnoklajkaaGreatDoor
open Go.ChangeShapes Go.WideShapes Go.ChangeAt Go.RowKit

def PcRes (w : World) (r : Option (List PcB)) (e : Ending) (w' : World) : Prop :=
 Below w.heap.size w w' ∧ match r with
  | none => e = .returned (.tuple #[.slice none 0 0, .bool false])
  | some l => ∃ v, e = .returned (.tuple #[v, .bool true]) ∧ w'.ownsRow w.heap.size 71 2 v l.length (pFlat l)
structure PcAt (w wr : World) (lv bv : Value) (ps : List PcB) (bs : List UInt8) : Prop where
 below : Below w.heap.size w wr
 l : wr.ownsRow w.heap.size 71 2 lv ps.length (pFlat ps)
 b : wr.ownsRow w.heap.size 5 1 bv bs.length (bs.map b8)
section
variable {w wr w' : World} {lv bv v' : Value} {ps ps' : List PcB} {bs bs' : List UInt8}
theorem PcAt.start (w : World) : PcAt w w (.slice none 0 0) (.slice none 0 0) [] [] := ⟨Below.refl _ _, World.ownsRow_nil _ _ _ _, World.ownsRow_nil _ _ _ _⟩
theorem PcAt.next (h : PcAt w wr lv bv ps bs) (hb : w'.ownsRow w.heap.size 5 1 v' bs'.length (bs'.map b8)) {o : Obj} (hg : (wr.alloc o).grownBy w' bv.ownBlock) : PcAt w w' lv v' ps bs' :=
 ⟨(h.below.alloc h.below.size _).grown hg (Nat.le_trans h.below.size (below_one wr o).size) (fun k hk => (h.b.lt k hk).1), rowGrown h.l h.b (by decide) hg, hb⟩
theorem PcAt.more (h : PcAt w wr lv bv ps bs) (hl : w'.ownsRow w.heap.size 71 2 v' ps'.length (pFlat ps')) {o : Obj} (hg : (wr.alloc o).grownBy w' lv.ownBlock) : PcAt w w' v' (.slice none 0 0) ps' [] :=
 ⟨(h.below.alloc h.below.size _).grown hg (Nat.le_trans h.below.size (below_one wr o).size) (fun k hk => (h.l.lt k hk).1), hl, World.ownsRow_nil _ _ _ _⟩
end
set_option maxHeartbeats 6400000 in
set_option maxRecDepth 100000 in
theorem refPieces_any (s : ByteArray) (w : World) (hs : s.size ≤ 4294967280) :
  Calls Tryz.prog 28 #[.string s] w (PcRes w (piecesB s.data.toList)) := by
 obtain ⟨R, hR⟩ : ∃ R, piecesB s.data.toList = R := ⟨_, rfl⟩
 have HR : Hid (scanB (s.data.toList.drop 0) [] [] = R) := Lib.hid hR
 have H0 := Lib.hid (PcAt.start w)
 have HIN : Hid (∀ (x : ByteArray) (W : World), x.size ≤ 4294967296 → Calls Tryz.prog 59 #[.string x] W fun e w' => e = .returned (.bool (nameB x.data.toList)) ∧ W = w') := Lib.hid fun x W hx => refIsName_any x W hx
 rw [hR]
 clear hR
 go_enter Tryz.func28, Tryz.ntmps28
 go_wp2
 go_loopw [4, 5, 6] (fun lu bu i wr => ∃ (lv bv : Value) (k : Nat) (ps : List PcB) (bs : List UInt8), lv = lu ∧ bv = bu ∧ i = .int .i64 k ∧ k ≤ s.size ∧ ps.length ≤ k ∧ bs.length ≤ k ∧ Hid (PcAt w wr lv bv ps bs) ∧ Hid (scanB (s.data.toList.drop k) bs ps = R)) (fun _ _ i _ => s.size - (intOf i).toNat)
 case atStart => exact ⟨_, _, 0, [], [], rfl, rfl, rfl, by omega, by simp, by simp, H0, HR⟩
 case round =>
  clear H0 HR
  obtain ⟨lv, bv, k, ps, bs, rfl, rfl, rfl, hk, hpl, hbl, HP, HR⟩ := hrel
  by_cases hlt : k < s.size
  ·have q1 : (0 : Int) ≤ k := by omega
   have q2 : (k : Int) < s.size := by omega
   have hby := byte_le s k hlt
   have hdr := drop_byte s k hlt
   have hRR := HR.out
   rw [hdr] at hRR
   by_cases hc : s[k]'hlt = 36
   ·have c1 : ((s[k]'hlt).toNat : Int) = 36 := by rw [hc]; rfl
    rw [hc] at hRR
    by_cases hl2 : k + 1 < s.size
    ·have q3 : (0 : Int) ≤ (k : Int) + 1 := by omega
     have q4 : (k : Int) + 1 < s.size := by omega
     have q9 : decide ((s.size : Int) ≤ (k : Int) + 1) = false := decide_eq_false (by omega)
     have hby2 := byte_le s (k + 1) hl2
     have hdr2 := drop_byte s (k + 1) hl2
     rw [hdr2] at hRR
     by_cases hd : s[k + 1]'hl2 = 36
     ·have c2 : ((s[k + 1]'hl2).toNat : Int) = 36 := by rw [hd]; rfl
      rw [hd, scanB_two] at hRR
      have HRR := Lib.hid hRR
      have HOW := Lib.hid HP.out.b
      have HSZ := Lib.hid HP.out.below.size
      clear hdr hdr2 hRR hc hd HR
      go_wp2_with (at_builtin; refine appendBy rfl _ _ rfl HOW.out HSZ.out (by omega) 36 36 rfl rfl rfl rfl ?_; intro y cap w5 ho hg; have HP5 := Lib.hid (HP.out.next (bs' := bs ++ [36]) (by simpa using ho) hg); clear ho hg)
      go_roundw
      case rel => exact ⟨_, _, k + 2, ps, bs ++ [36], rfl, rfl, by go_num, by omega, by omega, by simp; omega, HP5, HRR⟩
      case measure => simp [intOf]; omega
     ·have c2 : ¬ ((s[k + 1]'hl2).toNat : Int) = 36 := fun e => hd (UInt8.toNat_inj.1 (by have : ((36 : UInt8).toNat : Int) = 36 := rfl; omega))
      by_cases he : s[k + 1]'hl2 = 123
      ·have c3 : ((s[k + 1]'hl2).toNat : Int) = 123 := by rw [he]; rfl
       rw [he] at hRR
       have HRR := Lib.hid hRR
       have hIn0 : Hid (((s.data.toList.drop (k + 2)).take (k + 1 - (k + 2))).contains 125 = false) := Lib.hid (by rw [show k + 1 - (k + 2) = 0 by omega]; simp)
       clear hdr hdr2 hRR hc hd he HR
       go_wp2
       go_loopw [6] (fun i ws => ∃ j : Nat, i = .int .i64 j ∧ k + 1 ≤ j ∧ j ≤ s.size ∧ Hid (((s.data.toList.drop (k + 2)).take (j - (k + 2))).contains 125 = false) ∧ wr = ws) (fun i _ => s.size - (intOf i).toNat)
       case atStart => exact ⟨k + 1, by go_num, by omega, by omega, hIn0, rfl⟩
       case round =>
        clear hIn0
        obtain ⟨j, rfl, hj1, hj2, HNO, rfl⟩ := hrel
        by_cases hjt : j < s.size
        ·have q5 : (0 : Int) ≤ j := by omega
         have q6 : (j : Int) < s.size := by omega
         have hby3 := byte_le s j hjt
         by_cases hf : s[j]'hjt = 125
         ·have c4 : ((s[j]'hjt).toNat : Int) = 125 := by rw [hf]; rfl
          have hj3 : k + 2 ≤ j := by
           rcases Nat.lt_or_ge j (k + 2) with h | h
           ·obtain rfl : j = k + 1 := by omega
            omega
           ·exact h
          have hL : j - (k + 2) < (s.data.toList.drop (k + 2)).length := by rw [List.length_drop]; simp; omega
          have hLe : (s.data.toList.drop (k + 2))[j - (k + 2)]'hL = 125 := by
           rw [List.getElem_drop]
           simp only [show k + 2 + (j - (k + 2)) = j by omega]
           exact (list_at s j hjt).trans hf
          obtain ⟨u1, u2, u3⟩ := upTo_hit hL HNO.out hLe
          obtain ⟨nb, hnb⟩ : ∃ nb, s.extract (k + 2) j = nb := ⟨_, rfl⟩
          have hnd : nb.data.toList = upTo 125 (s.data.toList.drop (k + 2)) := by rw [← hnb, Lib.extract_data, u1]
          have hnz : nb.size ≤ 4294967296 := by
           rw [← hnb, ByteArray.size_extract]
           omega
          have haf : after 125 (s.data.toList.drop (k + 2)) = s.data.toList.drop (j + 1) := by
           rw [u2, List.drop_drop]
           congr 1
           omega
          have hto : ((k : Int) + 1 + 1).toNat = k + 2 := by omega
          have w1 : (0 : Int) ≤ (k : Int) + 1 + 1 := by omega
          have w2 : (k : Int) + 1 + 1 ≤ j := by omega
          have w3 : (j : Int) ≤ s.size := by omega
          have HNA := Lib.hid fun W => HIN.out nb W hnz
          have HND := Lib.hid hnd
          have HU3 := Lib.hid u3
          have hRR := HRR.out
          clear u1 u2 u3 hLe hL hf
          by_cases hok : nameB nb.data.toList = true
          ·rw [show s.data.toList.drop (k + 1 + 1) = s.data.toList.drop (k + 2) from rfl, scanB_ref HU3.out (by rw [← hnd]; exact hok), haf, ← hnd] at hRR
           have HR2 := Lib.hid hRR
           rw [hok] at HNA
           have hcv : (convert 30 9 bv).run Tryz.prog wr.drew = .ok (.string ⟨bs.toArray⟩) wr.drew := (Own8.drew ⟨HP.out.b, HP.out.below⟩).string _ _ Tryz.underlying9 Tryz.underlying30 Tryz.underlying5
           have HOW : Hid (∀ o, (wr.drew.alloc o).ownsRow w.heap.size 71 2 lv ps.length (pFlat ps)) := Lib.hid fun o => (rowBelow HP.out.l (below_drewN wr 1)).alloc o
           have HSZ : Hid (∀ o, w.heap.size ≤ (wr.drew.alloc o).heap.size) := Lib.hid fun o => Nat.le_trans HP.out.below.size (below_one wr.drew o).size
           have HPU : Hid (∀ o W2 g2 cap, W2.ownsRow w.heap.size 71 2 (.slice (some ⟨g2, 0, none⟩) (ps.length + 2) cap) (ps.length + 2) (pFlat (ps ++ [(bs, false), (nb.data.toList, true)])) → (wr.drew.alloc o).grownBy W2 lv.ownBlock → PcAt w W2 (.slice (some ⟨g2, 0, none⟩) (ps.length + 2) cap) (.slice none 0 0) (ps ++ [(bs, false), (nb.data.toList, true)]) []) := Lib.hid fun o W2 g2 cap h1 h2 => by
            have hp : PcAt w wr.drew lv bv ps bs := ⟨HP.out.below.trans ((below_drewN wr 1).mono HP.out.below.size), rowBelow HP.out.l (below_drewN wr 1), rowBelow HP.out.b (below_drewN wr 1)⟩
            exact hp.more (by rw [List.length_append]; exact h1) h2
           have hgl : ps.length ≤ 10000000000 := by omega
           clear hRR hnd haf HND HU3 HRR hok
           go_wp2_with fail
           refine (HNA.out _).mono ?_
           rintro e w3 ⟨rfl, rfl⟩
           go_wp2
           go_region_law (first
            | (refine stepPc rfl _ _ rfl (HOW.out _) (HSZ.out _) hgl [(bs, false), (nb.data.toList, true)] rfl rfl (by simp) (by simp) rfl (by simp [pFlat, pCells]; done) ?_; intro g4 cap4 w4 h1 h2; have HP4 := Lib.hid (HPU.out _ _ _ _ h1 h2); clear h1 h2))
           all_goals
            go_wp2
            exact ⟨⟨_, _, j + 1, _, [], rfl, rfl, by go_num, by omega, by simp; omega, by simp, HP4, HR2⟩, by simp [intOf]; omega⟩
          ·have hno : nameB nb.data.toList = false := by simpa using hok
           rw [show s.data.toList.drop (k + 1 + 1) = s.data.toList.drop (k + 2) from rfl, scanB_no (by rw [← hnd]; exact hno)] at hRR
           subst hRR
           rw [hno] at HNA
           clear hnd haf HND HU3 HRR hok hno
           go_wp2_with fail
           refine (HNA.out _).mono ?_
           rintro e w3 ⟨rfl, rfl⟩
           go_wp2
           go_ret2
           exact ⟨HP.out.below, rfl⟩
         ·have c4 : ¬ ((s[j]'hjt).toNat : Int) = 125 := fun e => hf (UInt8.toNat_inj.1 (by have : ((125 : UInt8).toNat : Int) = 125 := rfl; omega))
          have HN2 : Hid (((s.data.toList.drop (k + 2)).take (j + 1 - (k + 2))).contains 125 = false) := Lib.hid (by
           rcases Nat.lt_or_ge j (k + 2) with h | h
           ·rw [show j + 1 - (k + 2) = 0 by omega]; simp
           ·have hL : j - (k + 2) < (s.data.toList.drop (k + 2)).length := by rw [List.length_drop]; simp; omega
            rw [show j + 1 - (k + 2) = j - (k + 2) + 1 by omega]
            refine no_next hL HNO.out ?_
            rw [List.getElem_drop]
            simp only [show k + 2 + (j - (k + 2)) = j by omega]
            rw [list_at s j hjt]
            exact hf)
          clear hf HNO
          go_wp2
          go_roundw
          case rel => exact ⟨j + 1, by go_num, by omega, by omega, HN2, by first | rfl | trivial⟩
          case measure => simp [intOf]; omega
        ·obtain rfl : j = s.size := by omega
         have q6 : ¬ (s.size : Int) < s.size := by omega
         have q7 : (s.size : Int) ≤ s.size := by omega
         have hno : (s.data.toList.drop (k + 2)).contains 125 = false := by
          have := HNO.out
          rwa [List.take_of_length_le (by rw [List.length_drop]; simp)] at this
         have hRR := HRR.out
         rw [show s.data.toList.drop (k + 1 + 1) = s.data.toList.drop (k + 2) from rfl, scanB_open hno] at hRR
         subst hRR
         clear hno HNO HRR
         go_wp2
         go_ret2
         exact ⟨HP.out.below, rfl⟩
      ·have c3 : ¬ ((s[k + 1]'hl2).toNat : Int) = 123 := fun e => he (UInt8.toNat_inj.1 (by have : ((123 : UInt8).toNat : Int) = 123 := rfl; omega))
       rw [scanB_bad hd he] at hRR
       subst hRR
       clear hdr hdr2 hc hd he HR
       go_wp2
       go_ret2
       exact ⟨HP.out.below, rfl⟩
    ·have hdn : s.data.toList.drop (k + 1) = [] := List.drop_eq_nil_of_le (by simp; omega)
     rw [hdn, scanB_end] at hRR
     subst hRR
     have q4 : ¬ (k : Int) + 1 < s.size := by omega
     have q5 : (s.size : Int) ≤ (k : Int) + 1 := by omega
     clear hdr hdn hc HR
     go_wp2
     go_ret2
     exact ⟨HP.out.below, rfl⟩
   ·have c1 : ¬ ((s[k]'hlt).toNat : Int) = 36 := fun e => hc (UInt8.toNat_inj.1 (by have : ((36 : UInt8).toNat : Int) = 36 := rfl; omega))
    rw [scanB_byte hc] at hRR
    have HRR := Lib.hid hRR
    have HOW := Lib.hid HP.out.b
    have HSZ := Lib.hid HP.out.below.size
    clear hdr hRR hc HR
    go_wp2_with (at_builtin; refine appendBy rfl _ _ rfl HOW.out HSZ.out (by omega) (s[k]'hlt) _ rfl rfl rfl rfl ?_; intro y cap w5 ho hg; have HP5 := Lib.hid (HP.out.next (bs' := bs ++ [s[k]'hlt]) (by simpa using ho) hg); clear ho hg)
    go_roundw
    case rel => exact ⟨_, _, k + 1, ps, bs ++ [s[k]'hlt], rfl, rfl, by go_num, by omega, by omega, by simp; omega, HP5, HRR⟩
    case measure => simp [intOf]; omega
  ·obtain rfl : k = s.size := by omega
   have hRR := HR.out
   rw [List.drop_eq_nil_of_le (by simp), scanB_nil] at hRR
   have q2 : ¬ (s.size : Int) < s.size := by omega
   have HRR := Lib.hid hRR
   have hcv : ∀ W, Below wr.heap.size wr W → (convert 30 9 bv).run Tryz.prog W = .ok (.string ⟨bs.toArray⟩) W := fun W hb => Own8.string (w0 := w) ⟨rowBelow HP.out.b hb, HP.out.below.trans (hb.mono HP.out.below.size)⟩ _ _ Tryz.underlying9 Tryz.underlying30 Tryz.underlying5
   have hcw := hcv wr (Below.refl _ _)
   have HOW := Lib.hid HP.out.l
   have HSZ := Lib.hid HP.out.below.size
   clear hRR HR hcv
   go_wp2_with (at_builtin; refine appendPc rfl _ _ rfl HOW.out HSZ.out (by omega) [(bs, false)] _ rfl rfl rfl (by simp) (by simp) rfl rfl ?_; intro y cap w5 ho hg; have HP5 := Lib.hid (HP.out.more (ps' := ps ++ [(bs, false)]) (by rw [List.length_append]; exact ho) hg); clear ho hg)
   go_ret2
   rw [← HRR.out]
   exact ⟨HP5.out.below, _, rfl, by have := HP5.out.l; rw [List.length_append] at this ⊢; exact this⟩
end Go.Proofs.YtopghlnoklajkaaGreatDoor
