/-
  GlyphFold.
-/
import Derived.Test.YticcdighfojjjaaGreatDoorQGlyphNames2
import Derived.Test.YticcdighfojjjaaGreatDoorQBytes
namespace Go.Proofs.YticcdighfojjjaaGreatDoor
open Go.ChangeShapes Go.WideShapes Go.ChangeAt Go.RowKit

def foldB (c : UInt8) : UInt8 := if cls c.toNat = 2 then c + 32 else c
def foldL (l : List UInt8) : List UInt8 := l.map foldB
/-- The first k bytes folded, the others as they were. -/
def foldTo (l : List UInt8) (k : Nat) : List UInt8 := (l.take k).map foldB ++ l.drop k
theorem cls_great {b : Int} (h : cls b = 2) : 65 ≤ b ∧ b ≤ 90 := by
  unfold cls at h
  repeat' split at h
  all_goals omega
theorem great_cls {b : Int} (h : 65 ≤ b ∧ b ≤ 90) : cls b = 2 := by
  unfold cls; rw [if_neg (by omega), if_pos h]
theorem foldTo_length (l : List UInt8) (k : Nat) : (foldTo l k).length = l.length := by
  simp [foldTo]; omega
theorem foldTo_zero (l : List UInt8) : foldTo l 0 = l := by simp [foldTo]
theorem foldTo_all (l : List UInt8) (k : Nat) (h : l.length ≤ k) : foldTo l k = foldL l := by
  simp [foldTo, foldL, List.take_of_length_le h, List.drop_eq_nil_of_le h]
theorem foldTo_at (l : List UInt8) (k : Nat) (h : k < l.length) : (foldTo l k)[k]'(by rw [foldTo_length]; exact h) = l[k] := by
  simp only [foldTo]
  rw [List.getElem_append_right (by simp; omega)]
  simp [Nat.min_eq_left (Nat.le_of_lt h)]
theorem foldTo_succ (l : List UInt8) (k : Nat) (h : k < l.length) : (foldTo l k).set k (foldB l[k]) = foldTo l (k + 1) := by
  unfold foldTo
  have hl : ((l.take k).map foldB).length = k := by simp; omega
  rw [List.set_append_right _ _ (by omega), hl, Nat.sub_self, List.drop_eq_getElem_cons h, List.set_cons_zero, List.take_succ_eq_append_getElem h, List.map_append, List.append_assoc]
  rfl
theorem foldTo_same (l : List UInt8) (k : Nat) (h : k < l.length) (e : foldB l[k] = l[k]) : foldTo l k = foldTo l (k + 1) := by
  rw [← foldTo_succ l k h, e]
  apply List.ext_getElem (by simp)
  intro i h1 h2
  rw [List.getElem_set]
  split
  · rename_i e'; subst e'; exact foldTo_at l k h
  · rfl
theorem foldB_great {c : UInt8} (h : cls c.toNat = 2) : ((foldB c).toNat : Int) = c.toNat + 32 := by
  have hb := cls_great h
  rw [foldB, if_pos h, UInt8.toNat_add]
  have : (32 : UInt8).toNat = 32 := rfl
  rw [this]
  omega
theorem foldB_other {c : UInt8} (h : ¬ cls c.toNat = 2) : foldB c = c := by rw [foldB, if_neg h]

theorem fold_cell {wr : World} {g : Nat} {s : ByteArray} {k : Nat} (h : Row8 wr g (foldTo s.data.toList k)) (hk : k < s.size) : wr.cell? ⟨g, k, none⟩ = some (.int .u8 (s[k].toNat : Int)) ∧ wr.frozen? ⟨g, k, none⟩ = false := by
  obtain ⟨h1, h2⟩ := h k (by rw [foldTo_length]; simpa using hk)
  rw [foldTo_at s.data.toList k (by simpa using hk)] at h1
  exact ⟨h1, h2⟩
theorem fold_set {wr : World} {g : Nat} {s : ByteArray} {k : Nat} (h : Row8 wr g (foldTo s.data.toList k)) (hk : k < s.size) (hc : cls s[k].toNat = 2) (x : Int) (hx : x = (s[k].toNat : Int) + 32) :
    Row8 (wr.setCell ⟨g, k, none⟩ (.int .u8 x)) g (foldTo s.data.toList (k + 1)) := by
  have e : x = ((foldB s[k]).toNat : Int) := by rw [foldB_great hc]; exact hx
  rw [e, ← foldTo_succ s.data.toList k (by simpa using hk)]
  exact h.set k (foldB s[k])
theorem fold_skip {wr : World} {g : Nat} {s : ByteArray} {k : Nat} (h : Row8 wr g (foldTo s.data.toList k)) (hk : k < s.size) (hc : ¬ cls s[k].toNat = 2) : Row8 wr g (foldTo s.data.toList (k + 1)) := by
  rw [← foldTo_same s.data.toList k (by simpa using hk) (foldB_other hc)]; exact h

set_option maxHeartbeats 800000 in
theorem fold_any (s : ByteArray) (w : World) (hT : Tab w) (hs : s.size ≤ maxLen) :
    Calls Tryz.prog 75 #[.string s] w fun e w' => e = .returned (str (foldL s.data.toList)) ∧ Below w.heap.size w w' := by
  unfold maxLen at hs
  obtain ⟨cap, W1, hconv, hrow, hbel, hsz, hcap⟩ := toBytes (P := Tryz.prog) 9 59 5 w s Tryz.underlying9 Tryz.underlying59 Tryz.underlying5
  have HR := Lib.hid hrow
  clear hrow
  go_enter Tryz.func75, Tryz.ntmps75
  go_wp2
  clear hconv
  go_loopw [10] (fun i wr => ∃ k : Nat, k ≤ s.size ∧ i = .int .i64 k ∧ Hid (Row8 wr w.heap.size (foldTo s.data.toList k)) ∧ Below w.heap.size w wr ∧ w.heap.size < wr.heap.size) (fun i _ => s.size - (intOf i).toNat)
  case atStart => exact ⟨0, by omega, rfl, Lib.hid (by rw [foldTo_zero]; exact HR.out), hbel, hsz⟩
  case round =>
    clear HR hbel hsz
    obtain ⟨k, hk, rfl, HR, hb, hz⟩ := hrel
    have hT' : Tab wr := hT.below hb
    by_cases hlt : k < s.size
    · obtain ⟨hc1, hc2⟩ := fold_cell HR.out hlt
      have hby := byte_le s k hlt
      by_cases hc : cls s[k].toNat = 2
      · have hd : (cls (s[k].toNat : Int) == 2) = true := beq_iff_eq.2 hc
        obtain ⟨hg1, hg2⟩ := cls_great hc
        have HS := Lib.hid (fold_set HR.out hlt hc)
        clear hc
        go_wp2_with (go_at_call 78; refine (class_any _ _ hT').mono ?_; rintro e w' ⟨rfl, rfl⟩)
        go_roundw
        case rel => exact ⟨k + 1, by omega, by go_num, Lib.hid (HS.out _ (by omega)), hb.setCell (Nat.le_refl _) _, by simpa using hz⟩
        case measure => simp [intOf]; omega
      · have hd : (cls (s[k].toNat : Int) == 2) = false := beq_eq_false_iff_ne.2 hc
        have HS := Lib.hid (fold_skip HR.out hlt hc)
        clear hc
        go_wp2_with (go_at_call 78; refine (class_any _ _ hT').mono ?_; rintro e w' ⟨rfl, rfl⟩)
        go_roundw
        case rel => exact ⟨k + 1, by omega, by go_num, HS, hb, hz⟩
        case measure => simp [intOf]; omega
    · have hback := ofBytes (P := Tryz.prog) 9 59 5 wr w.heap.size cap s.size (foldL s.data.toList) (by simp [foldL]) Tryz.underlying9 Tryz.underlying59 Tryz.underlying5
        (by rw [← foldTo_all s.data.toList k (by simp; omega)]; exact HR.out)
      clear HR
      go_wp2
      go_ret
      exact ⟨rfl, hb⟩

set_option maxHeartbeats 800000 in
theorem refFold_any (s : ByteArray) (w : World) (hs : s.size ≤ maxLen) :
    Calls Tryz.prog 33 #[.string s] w fun e w' => e = .returned (str (foldL s.data.toList)) ∧ Below w.heap.size w w' := by
  unfold maxLen at hs
  obtain ⟨cap, W1, hconv, hrow, hbel, hsz, hcap⟩ := toBytes (P := Tryz.prog) 9 59 5 w s Tryz.underlying9 Tryz.underlying59 Tryz.underlying5
  have HR := Lib.hid hrow
  clear hrow
  go_enter Tryz.func33, Tryz.ntmps33
  go_wp2
  clear hconv
  go_loopw [4] (fun i wr => ∃ k : Nat, k ≤ s.size ∧ i = .int .i64 k ∧ Hid (Row8 wr w.heap.size (foldTo s.data.toList k)) ∧ Below w.heap.size w wr ∧ w.heap.size < wr.heap.size) (fun i _ => s.size - (intOf i).toNat)
  case atStart => exact ⟨0, by omega, rfl, Lib.hid (by rw [foldTo_zero]; exact HR.out), hbel, hsz⟩
  case round =>
    clear HR hbel hsz
    obtain ⟨k, hk, rfl, HR, hb, hz⟩ := hrel
    by_cases hlt : k < s.size
    · obtain ⟨hc1, hc2⟩ := fold_cell HR.out hlt
      have hby := byte_le s k hlt
      by_cases hc : cls s[k].toNat = 2
      · obtain ⟨hg1, hg2⟩ := cls_great hc
        have HS := Lib.hid (fold_set HR.out hlt hc)
        clear hc
        go_wp2
        go_roundw
        case rel => exact ⟨k + 1, by omega, by go_num, Lib.hid (HS.out _ (by omega)), hb.setCell (Nat.le_refl _) _, by simpa using hz⟩
        case measure => simp [intOf]; omega
      · have hor : (s[k].toNat : Int) < 65 ∨ 90 < (s[k].toNat : Int) := by
          rcases Int.lt_or_le (s[k].toNat : Int) 65 with h | h
          · exact Or.inl h
          · rcases Int.lt_or_le 90 (s[k].toNat : Int) with h2 | h2
            · exact Or.inr h2
            · exact absurd (great_cls ⟨h, h2⟩) hc
        have HS := Lib.hid (fold_skip HR.out hlt hc)
        clear hc
        rcases hor with ho | ho
        · go_wp2
          go_roundw
          case rel => exact ⟨k + 1, by omega, by go_num, HS, hb, hz⟩
          case measure => simp [intOf]; omega
        · go_wp2
          go_roundw
          case rel => exact ⟨k + 1, by omega, by go_num, HS, hb, hz⟩
          case measure => simp [intOf]; omega
    · have hback := ofBytes (P := Tryz.prog) 9 59 5 wr w.heap.size cap s.size (foldL s.data.toList) (by simp [foldL]) Tryz.underlying9 Tryz.underlying59 Tryz.underlying5
        (by rw [← foldTo_all s.data.toList k (by simp; omega)]; exact HR.out)
      clear HR
      go_wp2
      go_ret
      exact ⟨rfl, hb⟩
end Go.Proofs.YticcdighfojjjaaGreatDoor
