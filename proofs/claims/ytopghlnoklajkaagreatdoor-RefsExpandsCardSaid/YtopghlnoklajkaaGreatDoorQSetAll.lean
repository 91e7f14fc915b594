/-
  RefsMark, ValueRefWithin, SetMay, SetAll.
-/
import Derived.Test.YtopghlnoklajkaaGreatDoorQRefsWork
import Derived.Test.YtopghlnoklajkaaGreatDoorQRefsRow
import Derived.Test.YtopghlnoklajkaaGreatDoorQValueRefRight2
import Derived.Test.YtopghlnoklajkaaGreatDoorQSetOwn
import Derived.Test.YtopghlnoklajkaaGreatDoorQValueSame
namespace Go.Proofs.YtopghlnoklajkaaGreatDoor
open Go.ChangeShapes Go.WideShapes Go.ChangeAt Go.RowKit

def plO (ns : List ByteArray) (l : List UInt8) : Option Nat := if 0 ≤ placeN ns ⟨l.toArray⟩ then some (placeN ns ⟨l.toArray⟩).toNat else none
structure MkStat (W : World) (X n pb pc lb lc from_ g gc : Nat) (P : Nat → List PcB) : Prop where
 p : W.cell? ⟨X, 1, none⟩ = some (.slice (some ⟨pb, 0, none⟩) n pc)
 l : W.cell? ⟨X, 2, none⟩ = some (.slice (some ⟨lb, 0, none⟩) n lc)
 row : W.cell? ⟨lb, from_, none⟩ = some (.slice (some ⟨g, 0, none⟩) n gc)
 ps : ∀ i, i < n → ∃ xb xc, W.cell? ⟨pb, i, none⟩ = some (.slice xb (P i).length xc) ∧ ∀ q (h : q < (P i).length), ∃ b, xb = some ⟨b, 0, none⟩ ∧ W.cell? ⟨b, q * 2, none⟩ = some (.string ⟨(P i)[q].1.toArray⟩) ∧ W.cell? ⟨b, q * 2 + 1, none⟩ = some (.bool (P i)[q].2)
def BoolAt (W : World) (g n : Nat) (V : Nat → Bool) : Prop := ∀ j, j < n → W.cell? ⟨g, j, none⟩ = some (.bool (V j)) ∧ W.frozen? ⟨g, j, none⟩ = false
theorem BoolAt.put {W : World} {g n : Nat} {V : Nat → Bool} (h : BoolAt W g n V) {k : Nat} (hk : k < n) : BoolAt (W.setCell ⟨g, k, none⟩ (.bool true)) g n (fun j => V j || decide (j = k)) := fun j hj => by
 refine ⟨?_, by rw [World.frozen?_setCell]; exact (h j hj).2⟩
 by_cases e : j = k
 ·subst e
  rw [World.cell?_setCell_same _ _ _ (h j hj).1]; simp
 ·rw [World.cell?_setCell_other _ _ _ _ (fun h => e (by injection h with h1 h2; omega)), (h j hj).1]; simp [e]
theorem filterMap_snoc {α β : Type} (f : α → Option β) (l : List α) (a : α) : (l ++ [a]).filterMap f = l.filterMap f ++ (f a).toList := by
 rw [List.filterMap_append]
 congr 1
set_option maxHeartbeats 3200000 in
set_option maxRecDepth 100000 in
theorem smark_any (X n pb pc lb lc from_ g gc : Nat) (P : Nat → List PcB) (ns : List ByteArray) (w0 : World) (HS : Hid (∀ W, w0.grownBy W (some g) → MkStat W X n pb pc lb lc from_ g gc P)) (hfr : from_ < n) (hpz : ∀ i, i < n → (P i).length ≤ 4294967290)
  (HPL : Hid (∀ W, w0.grownBy W (some g) → ∀ s : ByteArray, Calls Tryz.prog 80 #[.pointer (some ⟨X, 0, none⟩), .string s] W fun e w' => e = .returned (.int .i64 (placeN ns s)) ∧ W = w'))
  (HG : Hid (∀ i, i < n → ∀ p ∈ P i, p.2 = true → ∃ k : Nat, k < n ∧ placeN ns ⟨p.1.toArray⟩ = (k : Int))) :
  ∀ (m at_ : Nat) (V : Nat → Bool) (W : World), unm n V = m → w0.grownBy W (some g) → BoolAt W g n V → at_ < n →
   Calls Tryz.prog 39 #[.pointer (some ⟨X, 0, none⟩), .int .i64 from_, .int .i64 at_] W fun e w' => e = .returned (.tuple #[]) ∧ w0.grownBy w' (some g) ∧ ∃ V', BoolAt w' g n V' ∧ Marked (scP P (plO ns)) at_ (fun j => V j = true) (fun j => V' j = true) := by
 intro m
 induction m using Nat.strongRecOn with
 | ind m ih =>
  intro at_ V W hm hw hb hat
  have IH := Lib.hid ih
  have HM := Lib.hid hm
  have HPZ := Lib.hid (hpz at_ hat)
  obtain ⟨L, hL⟩ : ∃ L, P at_ = L := ⟨_, rfl⟩
  have HL := Lib.hid hL
  have H0 : Hid (w0.grownBy W (some g) ∧ BoolAt W g n V ∧ MarkedTo ((L.take 0).filterMap fun p => if p.2 = true then plO ns p.1 else none) (scP P (plO ns)) at_ (fun j => V j = true) (fun j => V j = true)) := Lib.hid ⟨hw, hb, MarkedTo.nil_ _ _⟩
  have q1 : (0 : Int) ≤ at_ := by omega
  have q2 : (at_ : Int) < n := by omega
  have q3 : (0 : Int) ≤ from_ := by omega
  have q4 : (from_ : Int) < n := by omega
  have HPS : Hid (∀ W, w0.grownBy W (some g) → ∃ xb xc, W.cell? ⟨pb, at_, none⟩ = some (.slice xb L.length xc) ∧ ∀ q (h : q < L.length), ∃ b, xb = some ⟨b, 0, none⟩ ∧ W.cell? ⟨b, q * 2, none⟩ = some (.string ⟨L[q].1.toArray⟩) ∧ W.cell? ⟨b, q * 2 + 1, none⟩ = some (.bool L[q].2)) := Lib.hid fun W hw => by
   have := (HS.out W hw).ps at_ hat
   rw [hL] at this
   exact this
  have HGL : Hid (∀ p ∈ L, p.2 = true → ∃ k : Nat, k < n ∧ placeN ns ⟨p.1.toArray⟩ = (k : Int)) := Lib.hid (by rw [← hL]; exact HG.out at_ hat)
  obtain ⟨z, hz⟩ : ∃ z, L.length = z := ⟨_, rfl⟩
  have HZ := Lib.hid hz
  have hzl : z ≤ 4294967290 := by rw [← hz, ← hL]; exact HPZ.out
  clear ih hm hw hb hat hpz hL hz
  go_enter Tryz.func39, Tryz.ntmps39
  go_wp2
  go_loopw [6] (fun i wr => ∃ (q : Nat) (V1 : Nat → Bool), i = .int .i64 q ∧ q ≤ z ∧ Hid (w0.grownBy wr (some g) ∧ BoolAt wr g n V1 ∧ MarkedTo ((L.take q).filterMap fun p => if p.2 = true then plO ns p.1 else none) (scP P (plO ns)) at_ (fun j => V j = true) (fun j => V1 j = true))) (fun i _ => z - (intOf i).toNat)
  case atStart => exact ⟨0, V, rfl, by omega, H0⟩
  case round =>
   clear H0
   obtain ⟨q, V1, rfl, hq, HR⟩ := hrel
   obtain ⟨st1, st2, st3, _⟩ := HS.out _ HR.out.1
   obtain ⟨xb, xc, st4, hps⟩ := HPS.out _ HR.out.1
   rw [HZ.out] at st4
   by_cases hlt : q < z
   ·have r1 : (0 : Int) ≤ q := by omega
    have r2 : (q : Int) < z := by omega
    have hql : q < L.length := by rw [HZ.out]; exact hlt
    obtain ⟨b, hxe, c0, c1⟩ := hps q hql
    have htk : (L.take (q + 1)).filterMap (fun p => if p.2 = true then plO ns p.1 else none) = (L.take q).filterMap (fun p => if p.2 = true then plO ns p.1 else none) ++ (if L[q].2 = true then plO ns L[q].1 else none).toList := by
     rw [List.take_succ_eq_append_getElem hql, filterMap_snoc]
    have hgl := HGL.out L[q] (List.getElem_mem hql)
    have hmem : L[q] ∈ L := List.getElem_mem hql
    generalize L[q] = p at *
    obtain ⟨nm, rf⟩ := p
    simp only at c0 c1 htk hgl
    subst hxe
    have HTK := Lib.hid htk
    have HMEM := Lib.hid hmem
    have HGK := Lib.hid hgl
    clear hps htk hgl hmem hql
    cases rf with
    | false =>
     have HR2 : Hid (w0.grownBy wr (some g) ∧ BoolAt wr g n V1 ∧ MarkedTo ((L.take (q + 1)).filterMap fun p => if p.2 = true then plO ns p.1 else none) (scP P (plO ns)) at_ (fun j => V j = true) (fun j => V1 j = true)) := Lib.hid ⟨HR.out.1, HR.out.2.1, by rw [HTK.out]; simpa using HR.out.2.2⟩
     go_wp2
     go_roundw
     case rel => exact ⟨q + 1, V1, by go_num, by omega, HR2⟩
     case measure => simp [intOf]; omega
    | true =>
     obtain ⟨k, hk, hpk⟩ := HGK.out rfl
     have HC := Lib.hid (HPL.out _ HR.out.1 ⟨nm.toArray⟩)
     rw [hpk] at HC
     have hpo : plO ns nm = some k := by unfold plO; rw [hpk, if_pos (by omega)]; simp
     have HPO := Lib.hid hpo
     obtain ⟨v0, z0⟩ := HR.out.2.1 k hk
     have r3 : (0 : Int) ≤ k := by omega
     have r4 : (k : Int) < n := by omega
     clear hpo hpk HGK
     cases hv : V1 k with
     | true =>
      rw [hv] at v0
      have HR2 : Hid (w0.grownBy wr (some g) ∧ BoolAt wr g n V1 ∧ MarkedTo ((L.take (q + 1)).filterMap fun p => if p.2 = true then plO ns p.1 else none) (scP P (plO ns)) at_ (fun j => V j = true) (fun j => V1 j = true)) := Lib.hid ⟨HR.out.1, HR.out.2.1, by rw [HTK.out, if_pos rfl, HPO.out]; exact HR.out.2.2.met hv⟩
      go_wp2_with fail
      refine HC.out.mono ?_
      rintro e w2 ⟨rfl, rfl⟩
      go_wp2
      go_roundw
      case rel => exact ⟨q + 1, V1, by go_num, by omega, HR2⟩
      case measure => simp [intOf]; omega
     | false =>
      rw [hv] at v0
      have hsc : k ∈ scP P (plO ns) at_ := by
       unfold scP
       rw [HL.out]
       exact List.mem_filterMap.2 ⟨(nm, true), HMEM.out, by rw [if_pos rfl]; exact HPO.out⟩
      have HIH : Hid (Calls Tryz.prog 39 #[.pointer (some ⟨X, 0, none⟩), .int .i64 from_, .int .i64 k] (wr.setCell ⟨g, k, none⟩ (.bool true)) fun e w' => e = .returned (.tuple #[]) ∧ w0.grownBy w' (some g) ∧ ∃ V', BoolAt w' g n V' ∧ Marked (scP P (plO ns)) k (fun j => (V1 j || decide (j = k)) = true) (fun j => V' j = true)) := Lib.hid
       (IH.out (unm n fun j => V1 j || decide (j = k)) (by
        have h1 := unm_mark (n := n) hk hv
        have h2 := unm_less (n := n) (V := V) (V' := V1) HR.out.2.2.keep
        rw [← HM.out]
        omega) k _ _ rfl (HR.out.1.trans (setGrown wr g k _)) (HR.out.2.1.put hk) hk)
      have HNW : Hid (∀ w3 V3, w0.grownBy w3 (some g) → BoolAt w3 g n V3 → Marked (scP P (plO ns)) k (fun j => (V1 j || decide (j = k)) = true) (fun j => V3 j = true) → w0.grownBy w3 (some g) ∧ BoolAt w3 g n V3 ∧ MarkedTo ((L.take (q + 1)).filterMap fun p => if p.2 = true then plO ns p.1 else none) (scP P (plO ns)) at_ (fun j => V j = true) (fun j => V3 j = true)) := Lib.hid fun w3 V3 h1 h2 h3 => by
       refine ⟨h1, h2, ?_⟩
       rw [HTK.out, if_pos rfl, HPO.out]
       refine HR.out.2.2.new hsc ?_
       have e : (fun j => V1 j = true ∨ j = k) = (fun j => (V1 j || decide (j = k)) = true) := by funext j; simp
       rw [e]; exact h3
      clear hsc
      go_wp2_with fail
      refine HC.out.mono ?_
      rintro e w2 ⟨rfl, rfl⟩
      go_wp2_with fail
      refine HIH.out.mono ?_
      rintro e w3 ⟨rfl, hg3, V3, hb3, hm3⟩
      have HR3 := Lib.hid (HNW.out w3 V3 hg3 hb3 hm3)
      clear hg3 hb3 hm3
      go_wp2
      go_roundw
      case rel => exact ⟨q + 1, V3, by go_num, by omega, HR3⟩
      case measure => simp [intOf]; omega
   ·obtain rfl : q = z := by omega
    have r2 : ¬ (q : Int) < q := by omega
    have HR2 : Hid (Marked (scP P (plO ns)) at_ (fun j => V j = true) (fun j => V1 j = true)) := Lib.hid (by
     refine MarkedTo.all ?_
     have h := HR.out.2.2
     rw [List.take_of_length_le (by rw [HZ.out]; exact Nat.le_refl _)] at h
     have e : scP P (plO ns) at_ = L.filterMap fun p => if p.2 = true then plO ns p.1 else none := by unfold scP; rw [HL.out]
     rw [e]; exact h)
    go_wp2
    go_end0
    exact ⟨rfl, HR.out.1, V1, HR.out.2.1, HR2.out⟩
end Go.Proofs.YtopghlnoklajkaaGreatDoor

namespace Go.Proofs.YtopghlnoklajkaaGreatDoor
open Go.ChangeShapes Go.WideShapes Go.ChangeAt Go.RowKit

theorem within_not {v : Val} (h : rightV v = false) (a b : Int) : withinV v a b = false := by unfold withinV; rw [h]; rfl
theorem within_all {v : Val} (h : rightV v = true) (hk : v.kind = 1 ∨ v.kind = 5) (a b : Int) : withinV v a b = true := by
 unfold withinV; rw [h, if_neg (by omega), if_neg (by omega)]; rfl
theorem within_words {v : Val} (h : rightV v = true) (hk : v.kind = 6) (a b : Int) : withinV v a b = (decide (a ≤ v.words.length) && decide ((v.words.length : Int) ≤ b)) := by
 unfold withinV; rw [h, if_neg (by omega), if_pos hk]; simp
theorem within_num {v : Val} (h : rightV v = true) (h1 : ¬ v.kind = 1) (h5 : ¬ v.kind = 5) (h6 : ¬ v.kind = 6) (a b : Int) : withinV v a b = (decide (a ≤ v.int) && decide (v.int ≤ b)) := by
 have hk : v.kind = 2 ∨ v.kind = 3 ∨ v.kind = 4 := by
  rcases right_cases h with ⟨h, _⟩ | ⟨h, _⟩ | ⟨h, _⟩ | ⟨h, _⟩ | ⟨h, _⟩ <;> omega
 unfold withinV; rw [h, if_pos hk]; simp

set_option maxHeartbeats 3200000 in
set_option maxRecDepth 100000 in
theorem refWithin_any (w : World) (v : Val) (x : Option Addr) (c : Nat) (a b : Int) (h : ArgOk w v x c) (hl : v.words.length ≤ 2147483647) :
  Calls Tryz.prog 102 #[argV v x c, .int .i64 a, .int .i64 b] w fun e w' => e = .returned (.bool (withinV v a b)) ∧ Below w.heap.size w w' := by
 have hb0 : Hid (∀ p, Box4 (w.alloc (.cells #[.int .i64 v.kind, .int .i64 v.int, .string v.text, .slice x v.words.length c] p)) w.heap.size (.int .i64 v.kind) (.int .i64 v.int) (.string v.text) (.slice x v.words.length c) ∧ Below w.heap.size w (w.alloc (.cells #[.int .i64 v.kind, .int .i64 v.int, .string v.text, .slice x v.words.length c] p))) := Lib.hid fun p => ⟨box4_new w _ _ _ _ p, (Below.refl _ _).alloc (Nat.le_refl _) _⟩
 have HRC : Hid (∀ p, Calls Tryz.prog 107 #[.agg #[.int .i64 v.kind, .int .i64 v.int, .string v.text, .slice x v.words.length c]] (w.alloc (.cells #[.int .i64 v.kind, .int .i64 v.int, .string v.text, .slice x v.words.length c] p)) fun e w' => e = .returned (.bool (rightV v)) ∧ Below (w.alloc (.cells #[.int .i64 v.kind, .int .i64 v.int, .string v.text, .slice x v.words.length c] p)).heap.size (w.alloc (.cells #[.int .i64 v.kind, .int .i64 v.int, .string v.text, .slice x v.words.length c] p)) w') := Lib.hid fun p => refRight_any _ v x c (h.below ((hb0.out p).2)) hl
 have H1 := Lib.hid (fun hr => within_not (v := v) hr a b)
 have H2 := Lib.hid (fun hr hk => within_all (v := v) hr hk a b)
 have H3 := Lib.hid (fun hr hk => within_words (v := v) hr hk a b)
 have H4 := Lib.hid (fun hr h1 h5 h6 => within_num (v := v) hr h1 h5 h6 a b)
 clear h hl
 obtain ⟨R, hR⟩ : ∃ R, withinV v a b = R := ⟨_, rfl⟩
 obtain ⟨T, hT⟩ : ∃ T, rightV v = T := ⟨_, rfl⟩
 rw [hR] at H1 H2 H3 H4 ⊢
 rw [hT] at H1 H2 H3 H4 HRC
 clear hR hT
 unfold argV
 obtain ⟨k, n, t, xs⟩ := v
 simp only at hb0 HRC H1 H2 H3 H4 ⊢
 obtain ⟨N, hN⟩ : ∃ N, xs.length = N := ⟨_, rfl⟩
 rw [hN] at hb0 HRC H3 ⊢
 clear hN
 cases hT : T with
 | false =>
  have HV := Lib.hid (H1.out hT)
  subst hT
  go_enter Tryz.func102, Tryz.ntmps102
  go_wp2_with fail
  refine (HRC.out _).mono ?_
  rintro e w1 ⟨rfl, hb⟩
  have HB := Lib.hid ((hb0.out 48).2.trans (hb.mono (hb0.out 48).2.size))
  clear hb
  go_wp2
  go_ret
  exact ⟨ret_bool HV.out, HB.out⟩
 | true =>
  have HT := Lib.hid hT
  subst hT
  by_cases h1 : k = 1
  ·have HV := Lib.hid (H2.out rfl (Or.inl h1))
   have e1 : (k == 1) = true := beq_iff_eq.2 h1
   clear h1
   go_enter Tryz.func102, Tryz.ntmps102
   go_wp2_with fail
   refine (HRC.out _).mono ?_
   rintro e w1 ⟨rfl, hb⟩
   obtain ⟨c0, c1, c2, c3, _, _, _, _⟩ := (hb0.out 48).1.below hb
   have HB := Lib.hid ((hb0.out 48).2.trans (hb.mono (hb0.out 48).2.size))
   clear hb
   go_wp2
   go_ret
   exact ⟨ret_bool HV.out, HB.out⟩
  have e1 : (k == 1) = false := beq_eq_false_iff_ne.2 h1
  by_cases h5 : k = 5
  ·have HV := Lib.hid (H2.out rfl (Or.inr h5))
   have e5 : (k == 5) = true := beq_iff_eq.2 h5
   clear h1 h5
   go_enter Tryz.func102, Tryz.ntmps102
   go_wp2_with fail
   refine (HRC.out _).mono ?_
   rintro e w1 ⟨rfl, hb⟩
   obtain ⟨c0, c1, c2, c3, _, _, _, _⟩ := (hb0.out 48).1.below hb
   have HB := Lib.hid ((hb0.out 48).2.trans (hb.mono (hb0.out 48).2.size))
   clear hb
   go_wp2
   go_ret
   exact ⟨ret_bool HV.out, HB.out⟩
  have e5 : (k == 5) = false := beq_eq_false_iff_ne.2 h5
  by_cases h6 : k = 6
  ·have e6 : (k == 6) = true := beq_iff_eq.2 h6
   have HV0 := H3.out rfl h6
   clear h1 h5 h6
   by_cases ha : a ≤ N
   ·have d1 : decide (a ≤ N) = true := decide_eq_true ha
    have HV : Hid (R = decide ((N : Int) ≤ b)) := Lib.hid (by rw [HV0, d1, Bool.true_and])
    clear HV0
    go_enter Tryz.func102, Tryz.ntmps102
    go_wp2_with fail
    refine (HRC.out _).mono ?_
    rintro e w1 ⟨rfl, hb⟩
    obtain ⟨c0, c1, c2, c3, _, _, _, _⟩ := (hb0.out 48).1.below hb
    have HB := Lib.hid ((hb0.out 48).2.trans (hb.mono (hb0.out 48).2.size))
    clear hb
    go_wp2
    go_ret
    exact ⟨ret_bool HV.out, HB.out⟩
   ·have d1 : decide (a ≤ N) = false := decide_eq_false ha
    have HV : Hid (R = false) := Lib.hid (by rw [HV0, d1, Bool.false_and])
    clear HV0 ha
    go_enter Tryz.func102, Tryz.ntmps102
    go_wp2_with fail
    refine (HRC.out _).mono ?_
    rintro e w1 ⟨rfl, hb⟩
    obtain ⟨c0, c1, c2, c3, _, _, _, _⟩ := (hb0.out 48).1.below hb
    have HB := Lib.hid ((hb0.out 48).2.trans (hb.mono (hb0.out 48).2.size))
    clear hb
    go_wp2
    go_ret
    exact ⟨ret_bool HV.out, HB.out⟩
  ·have e6 : (k == 6) = false := beq_eq_false_iff_ne.2 h6
   have HV0 := H4.out rfl h1 h5 h6
   clear h1 h5 h6
   by_cases ha : a ≤ n
   ·have d1 : decide (a ≤ n) = true := decide_eq_true ha
    have HV : Hid (R = decide (n ≤ b)) := Lib.hid (by rw [HV0, d1, Bool.true_and])
    clear HV0
    go_enter Tryz.func102, Tryz.ntmps102
    go_wp2_with fail
    refine (HRC.out _).mono ?_
    rintro e w1 ⟨rfl, hb⟩
    obtain ⟨c0, c1, c2, c3, _, _, _, _⟩ := (hb0.out 48).1.below hb
    have HB := Lib.hid ((hb0.out 48).2.trans (hb.mono (hb0.out 48).2.size))
    clear hb
    go_wp2
    go_ret
    exact ⟨ret_bool HV.out, HB.out⟩
   ·have d1 : decide (a ≤ n) = false := decide_eq_false ha
    have HV : Hid (R = false) := Lib.hid (by rw [HV0, d1, Bool.false_and])
    clear HV0 ha
    go_enter Tryz.func102, Tryz.ntmps102
    go_wp2_with fail
    refine (HRC.out _).mono ?_
    rintro e w1 ⟨rfl, hb⟩
    obtain ⟨c0, c1, c2, c3, _, _, _, _⟩ := (hb0.out 48).1.below hb
    have HB := Lib.hid ((hb0.out 48).2.trans (hb.mono (hb0.out 48).2.size))
    clear hb
    go_wp2
    go_ret
    exact ⟨ret_bool HV.out, HB.out⟩
end Go.Proofs.YtopghlnoklajkaaGreatDoor

namespace Go.Proofs.YtopghlnoklajkaaGreatDoor
open Go.ChangeShapes Go.WideShapes Go.ChangeAt Go.RowKit

def mayV (k : KeyV) (v : Val) : Bool := rightV v && withinV v k.least k.most && decide (v.kind = k.kind)
set_option maxHeartbeats 1600000 in
set_option maxRecDepth 100000 in
theorem smay_any (w : World) (k : KeyV) (v : Val) (x : Option Addr) (c : Nat) (h : ArgOk w v x c) (hl : v.words.length ≤ 2147483647) :
  Calls Tryz.prog 74 #[kAgg k, argV v x c] w fun e w' => e = .returned (.bool (mayV k v)) ∧ Below w.heap.size w w' := by
 have HB : Hid (∀ o1 o2, Below w.heap.size w ((w.alloc o1).alloc o2)) := Lib.hid fun o1 o2 => (below_one w o1).trans ((below_one (w.alloc o1) o2).mono (below_one w o1).size)
 have HRT : Hid (∀ W, Below w.heap.size w W → Calls Tryz.prog 107 #[argV v x c] W fun e w' => e = .returned (.bool (rightV v)) ∧ Below W.heap.size W w') := Lib.hid fun W hb => refRight_any W v x c (h.below hb) hl
 have HWT : Hid (∀ W, Below w.heap.size w W → Calls Tryz.prog 102 #[argV v x c, .int .i64 k.least, .int .i64 k.most] W fun e w' => e = .returned (.bool (withinV v k.least k.most)) ∧ Below W.heap.size W w') := Lib.hid fun W hb => refWithin_any W v x c k.least k.most (h.below hb) hl
 have HX4 : Hid (∀ o1 t2, Box4 ((w.alloc o1).alloc (Obj.cells #[.int .i64 v.kind, .int .i64 v.int, .string v.text, .slice x v.words.length c] t2)) (w.heap.size + 1) (.int .i64 v.kind) (.int .i64 v.int) (.string v.text) (.slice x v.words.length c)) := Lib.hid fun o1 t2 => by
  have := box4_new (w.alloc o1) (.int .i64 v.kind) (.int .i64 v.int) (.string v.text) (.slice x v.words.length c) t2
  rw [World.size_alloc] at this
  exact this
 have HX6 : Hid (∀ t1 o2, Box6 ((w.alloc (Obj.cells #[.string k.name, .int .i64 k.kind, .string k.dflt, .int .i64 k.least, .int .i64 k.most, .string k.letter] t1)).alloc o2) w.heap.size k) := Lib.hid fun t1 o2 => (box6_new w k t1).below (below_one _ _)
 obtain ⟨R, hR⟩ : ∃ R, mayV k v = R := ⟨_, rfl⟩
 have HR : Hid ((rightV v && withinV v k.least k.most && decide (v.kind = k.kind)) = R) := Lib.hid hR
 rw [hR]
 clear h hl hR
 generalize rightV v = r1 at *
 generalize withinV v k.least k.most = r2 at *
 obtain ⟨nm, kd, dl, la, lb, le⟩ := k
 obtain ⟨vk, vi, vt, vw⟩ := v
 unfold argV at *
 unfold kAgg
 simp only at HRT HWT HX4 HX6 HR ⊢
 go_enter Tryz.func74, Tryz.ntmps74
 go_wp2_with fail
 refine (HRT.out _ (HB.out _ _)).mono ?_
 rintro e w3 ⟨rfl, hb3⟩
 obtain ⟨c0, c1, c2, c3, _⟩ := (HX4.out _ _).below hb3
 have hx6 := (HX6.out _ _).below hb3
 have HB3 := Lib.hid ((HB.out _ _).trans (hb3.mono (HB.out _ _).size))
 have HX6b := Lib.hid hx6
 have d1 := hx6.c1
 have d3 := hx6.c3
 have d4 := hx6.c4
 simp only at d1 d3 d4
 clear hb3 hx6 HRT
 go_wp2_with fail
 refine (HWT.out _ HB3.out).mono ?_
 rintro e w4 ⟨rfl, hb4⟩
 have HB4 := Lib.hid (HB3.out.trans (hb4.mono HB3.out.size))
 have d1' : w4.cell? ⟨w.heap.size, 1, none⟩ = some (.int .i64 kd) := (hb4.cell (p := ⟨w.heap.size, 1, none⟩) (lt_of_cell d1)).trans d1
 have c0' : w4.cell? ⟨w.heap.size + 1, 0, none⟩ = some (.int .i64 vk) := (hb4.cell (p := ⟨w.heap.size + 1, 0, none⟩) (lt_of_cell c0)).trans c0
 clear hb4 c0 c1 c2 c3 d1 d3 d4 HWT HB3 HX6b HX4 HX6 HB
 cases r1 with
 | false =>
  go_wp2
  go_ret
  exact ⟨by rw [← HR.out]; rfl, HB4.out⟩
 | true =>
  cases r2 with
  | false =>
   go_wp2
   go_ret
   exact ⟨by rw [← HR.out]; rfl, HB4.out⟩
  | true =>
   have HR2 : Hid (decide (vk = kd) = R) := Lib.hid (by have := HR.out; simpa using this)
   go_wp2
   go_ret
   exact ⟨by rw [← HR2.out]; rfl, HB4.out⟩
end Go.Proofs.YtopghlnoklajkaaGreatDoor

namespace Go.Proofs.YtopghlnoklajkaaGreatDoor
open Go.ChangeShapes Go.WideShapes Go.ChangeAt Go.RowKit

structure SBox (w : World) (S : Nat) (m : SetM) : Prop where
 c0 : w.cell? ⟨S, 0, none⟩ = some (.string m.x.name)
 c1 : w.cell? ⟨S, 1, none⟩ = some (.int .i64 m.x.val.kind)
 c2 : w.cell? ⟨S, 2, none⟩ = some (.int .i64 m.x.val.int)
 c3 : w.cell? ⟨S, 3, none⟩ = some (.string m.x.val.text)
 c4 : w.cell? ⟨S, 4, none⟩ = some (.slice m.a m.x.val.words.length m.c)
 c5 : w.cell? ⟨S, 5, none⟩ = some (.int .i64 m.x.from_)
 z : ∀ j, w.frozen? ⟨S, j, none⟩ = false
theorem SBox.lt {w : World} {S : Nat} {m : SetM} (h : SBox w S m) : S < w.heap.size := lt_of_cell h.c0
theorem SBox.below {w w' : World} {S : Nat} {m : SetM} (h : SBox w S m) (hb : Below w.heap.size w w') : SBox w' S m := by
 have hl := h.lt
 obtain ⟨h0, h1, h2, h3, h4, h5, z⟩ := h
 exact ⟨by rw [hb.cell hl]; exact h0, by rw [hb.cell hl]; exact h1, by rw [hb.cell hl]; exact h2, by rw [hb.cell hl]; exact h3, by rw [hb.cell hl]; exact h4, by rw [hb.cell hl]; exact h5, fun j => by rw [hb.frozen hl]; exact z j⟩
theorem sBox_new (w : World) (m : SetM) (t : TypeId) : SBox (w.alloc (Obj.cells #[.string m.x.name, .int .i64 m.x.val.kind, .int .i64 m.x.val.int, .string m.x.val.text, .slice m.a m.x.val.words.length m.c, .int .i64 m.x.from_] t)) w.heap.size m := by
 constructor <;> simp
end Go.Proofs.YtopghlnoklajkaaGreatDoor
