/-
  EnvGreat, EnvCalled.
-/
import Derived.Test.YtbgoooljkdjjhaaGreatDoorQEnvMath
import Derived.Test.YtbgoooljkdjjhaaGreatDoorQBytes
import Derived.Test.YtbgoooljkdjjhaaGreatDoorQValueWords
import Derived.Shelf.Strings.Replace
namespace Go.Proofs.YtbgoooljkdjjhaaGreatDoor
open Go.ChangeShapes Go.WideShapes Go.ChangeAt Go.RowKit

/-- The first k bytes as they are called, the others as they were. -/
def upcTo (l : List UInt8) (k : Nat) : List UInt8 := (l.take k).map upc ++ l.drop k
theorem upcTo_length (l : List UInt8) (k : Nat) : (upcTo l k).length = l.length := by
  simp [upcTo]; omega
theorem upcTo_zero (l : List UInt8) : upcTo l 0 = l := by simp [upcTo]
theorem upcTo_all (l : List UInt8) (k : Nat) (h : l.length ≤ k) : upcTo l k = calledL l := by
  simp [upcTo, calledL, List.take_of_length_le h, List.drop_eq_nil_of_le h]
theorem upcTo_at (l : List UInt8) (k : Nat) (h : k < l.length) : (upcTo l k)[k]'(by rw [upcTo_length]; exact h) = l[k] := by
  simp only [upcTo]
  rw [List.getElem_append_right (by simp; omega)]
  simp [Nat.min_eq_left (Nat.le_of_lt h)]
theorem upcTo_succ (l : List UInt8) (k : Nat) (h : k < l.length) : (upcTo l k).set k (upc l[k]) = upcTo l (k + 1) := by
  unfold upcTo
  have hl : ((l.take k).map upc).length = k := by simp; omega
  rw [List.set_append_right _ _ (by omega), hl, Nat.sub_self, List.drop_eq_getElem_cons h, List.set_cons_zero, List.take_succ_eq_append_getElem h, List.map_append, List.append_assoc]
  rfl
theorem upcTo_same (l : List UInt8) (k : Nat) (h : k < l.length) (e : upc l[k] = l[k]) : upcTo l k = upcTo l (k + 1) := by
  rw [← upcTo_succ l k h, e]
  apply List.ext_getElem (by simp)
  intro i h1 h2
  rw [List.getElem_set]
  split
  · rename_i e'; subst e'; exact upcTo_at l k h
  · rfl
theorem upc_small (c : UInt8) (h : 97 ≤ c.toNat ∧ c.toNat ≤ 122) : ((upc c).toNat : Int) = c.toNat - 32 := by
  have := byte_all (p := fun c => !(decide (97 ≤ c.toNat) && decide (c.toNat ≤ 122)) || decide (((upc c).toNat : Int) = (c.toNat : Int) - 32)) (by decide +kernel) c
  simpa [h.1, h.2] using this
theorem upc_other (c : UInt8) (h : ¬ (97 ≤ c.toNat ∧ c.toNat ≤ 122)) (h2 : c.toNat ≠ 46) : upc c = c := by
  have := byte_all (p := fun c => (decide (97 ≤ c.toNat) && decide (c.toNat ≤ 122)) || decide (c.toNat = 46) || decide (upc c = c)) (by decide +kernel) c
  simp only [Bool.or_eq_true, Bool.and_eq_true, decide_eq_true_eq] at this
  rcases this with (h3 | h3) | h3
  · exact absurd h3 h
  · exact absurd h3 h2
  · exact h3
theorem upc_point (c : UInt8) (h : c.toNat = 46) : ((upc c).toNat : Int) = 95 := by
  have := byte_all (p := fun c => !decide (c.toNat = 46) || decide (((upc c).toNat : Int) = 95)) (by decide +kernel) c
  simpa [h] using this
theorem great_cell {wr : World} {g : Nat} {s : ByteArray} {k : Nat} (h : Row8 wr g (upcTo s.data.toList k)) (hk : k < s.size) : wr.cell? ⟨g, k, none⟩ = some (.int .u8 (s[k].toNat : Int)) ∧ wr.frozen? ⟨g, k, none⟩ = false := by
  obtain ⟨h1, h2⟩ := h k (by rw [upcTo_length]; simpa using hk)
  rw [upcTo_at s.data.toList k (by simpa using hk)] at h1
  exact ⟨h1, h2⟩
theorem great_set {wr : World} {g : Nat} {s : ByteArray} {k : Nat} (h : Row8 wr g (upcTo s.data.toList k)) (hk : k < s.size) (x : Int) (hx : x = ((upc s[k]).toNat : Int)) :
    Row8 (wr.setCell ⟨g, k, none⟩ (.int .u8 x)) g (upcTo s.data.toList (k + 1)) := by
  rw [hx, ← upcTo_succ s.data.toList k (by simpa using hk)]
  exact h.set k (upc s[k])
theorem great_skip {wr : World} {g : Nat} {s : ByteArray} {k : Nat} (h : Row8 wr g (upcTo s.data.toList k)) (hk : k < s.size) (e : upc s[k] = s[k]) : Row8 wr g (upcTo s.data.toList (k + 1)) := by
  rw [← upcTo_same s.data.toList k (by simpa using hk) e]; exact h
set_option maxHeartbeats 1600000 in
theorem great_any (s : ByteArray) (w : World) (hs : s.size ≤ maxLen) :
    Calls Tryz.prog 42 #[.string s] w fun e w' => e = .returned (.string (mkB (calledL s.data.toList))) ∧ Below w.heap.size w w' := by
  unfold maxLen at hs
  obtain ⟨cap, W1, hconv, hrow, hbel, hsz, hcap⟩ := toBytes (P := Tryz.prog) 9 99 5 w s Tryz.underlying9 Tryz.underlying99 Tryz.underlying5
  have HR := Lib.hid hrow
  clear hrow
  go_enter Tryz.func42, Tryz.ntmps42
  go_wp2
  clear hconv
  go_loopw [4] (fun i wr => ∃ k : Nat, k ≤ s.size ∧ i = .int .i64 k ∧ Hid (Row8 wr w.heap.size (upcTo s.data.toList k)) ∧ Below w.heap.size w wr ∧ w.heap.size < wr.heap.size) (fun i _ => s.size - (intOf i).toNat)
  case atStart => exact ⟨0, by omega, rfl, Lib.hid (by rw [upcTo_zero]; exact HR.out), hbel, hsz⟩
  case round =>
    clear HR hbel hsz
    obtain ⟨k, hk, rfl, HR, hb, hz⟩ := hrel
    by_cases hlt : k < s.size
    · obtain ⟨hc1, hc2⟩ := great_cell HR.out hlt
      have hby := byte_le s k hlt
      by_cases hc : 97 ≤ s[k].toNat ∧ s[k].toNat ≤ 122
      · obtain ⟨hg1, hg2⟩ := hc
        have hg1' : (97 : Int) ≤ (s[k].toNat : Int) := by omega
        have hg2' : (s[k].toNat : Int) ≤ 122 := by omega
        have hg3 : ¬ (s[k].toNat : Int) = 46 := by omega
        have HS : Hid (∀ x : Int, x = (s[k].toNat : Int) - 32 → Row8 (wr.setCell ⟨w.heap.size, k, none⟩ (.int .u8 x)) w.heap.size (upcTo s.data.toList (k + 1)) ∧ (wr.setCell ⟨w.heap.size, k, none⟩ (.int .u8 x)).cell? ⟨w.heap.size, k, none⟩ = some (.int .u8 x)) := Lib.hid fun x hx => ⟨great_set HR.out hlt x (by rw [upc_small _ ⟨hg1, hg2⟩]; exact hx), World.cell?_setCell_same _ _ _ hc1⟩
        have hne : ¬ ((s[k].toNat : Int) - 32 = 46) := by omega
        have hc4 := (HS.out _ rfl).2
        go_wp2
        go_roundw
        case rel => exact ⟨k + 1, by omega, by go_num, Lib.hid (HS.out _ (by omega)).1, hb.setCell (Nat.le_refl _) _, by simpa using hz⟩
        case measure => simp [intOf]; omega
      · by_cases hp : s[k].toNat = 46
        · have hp1 : (s[k].toNat : Int) = 46 := by omega
          have HS := Lib.hid (great_set HR.out hlt 95 (by rw [upc_point _ hp]))
          have hlt97 : (s[k].toNat : Int) < 97 := by omega
          go_wp2
          go_roundw
          case rel => exact ⟨k + 1, by omega, by go_num, HS, hb.setCell (Nat.le_refl _) _, by simpa using hz⟩
          case measure => simp [intOf]; omega
        · have hp1 : ¬ (s[k].toNat : Int) = 46 := by omega
          have HS := Lib.hid (great_skip HR.out hlt (upc_other _ hc hp))
          have hor : (s[k].toNat : Int) < 97 ∨ 122 < (s[k].toNat : Int) := by omega
          rcases hor with ho | ho
          all_goals
            go_wp2
            go_roundw
            case rel => exact ⟨k + 1, by omega, by go_num, HS, hb, hz⟩
            case measure => simp [intOf]; omega
    · have hback := ofBytes (P := Tryz.prog) 9 99 5 wr w.heap.size cap s.size (calledL s.data.toList) (by simp [calledL]) Tryz.underlying9 Tryz.underlying99 Tryz.underlying5
        (by rw [← upcTo_all s.data.toList k (by simp; omega)]; exact HR.out)
      clear HR
      go_wp2
      go_ret
      exact ⟨rfl, hb⟩
/-- What Name answers. -/
def nameV (l : List UInt8) : Value := if nameB l = true then .tuple #[.string (mkB (calledL l)), .int .i64 0] else .tuple #[.string ⟨#[]⟩, .int .i64 1]
set_option maxRecDepth 100000 in
theorem erefName_any (s : ByteArray) (w : World) (hs : s.size ≤ 4294967280) :
    Calls Tryz.prog 18 #[.string s] w fun e w' => e = .returned (nameV s.data.toList) ∧ Below w.heap.size w w' := by
  have HN : Hid (Calls Tryz.prog 41 #[.string s] w fun e w' => e = .returned (.bool (nameB s.data.toList)) ∧ w = w') := Lib.hid (refIsName_any s w (by omega))
  have HC := Lib.hid (great_any s w (by unfold maxLen; omega))
  have HB := Lib.hid (Below.refl w.heap.size w)
  unfold nameV
  clear hs
  generalize mkB (calledL s.data.toList) = V at HC ⊢
  cases hn : nameB s.data.toList with
  | true =>
    rw [hn] at HN
    rw [if_pos rfl]
    clear hn
    go_enter Tryz.func18, Tryz.ntmps18
    go_wp2_with fail
    refine HN.out.mono ?_
    rintro e w1 ⟨rfl, rfl⟩
    go_wp2_with fail
    refine HC.out.mono ?_
    rintro e w2 ⟨rfl, hb⟩
    have HB2 := Lib.hid hb
    clear hb
    go_wp2
    go_ret2
    exact ⟨rfl, HB2.out⟩
  | false =>
    rw [hn] at HN
    rw [if_neg (by decide)]
    clear hn
    go_enter Tryz.func18, Tryz.ntmps18
    go_wp2_with fail
    refine HN.out.mono ?_
    rintro e w1 ⟨rfl, rfl⟩
    go_wp2
    go_ret2
    exact ⟨rfl, HB.out⟩
end Go.Proofs.YtbgoooljkdjjhaaGreatDoor

namespace Go.Proofs.YtbgoooljkdjjhaaGreatDoor
open Go.ChangeShapes Go.WideShapes Go.ChangeAt Go.RowKit

theorem upper_any (s : ByteArray) (w : World) (hs : s.size ≤ 4294967280) (ha : s.data.toList.all okc = true) :
    Calls Tryz.prog 68 #[.string s] w fun e w' => e = .returned (.string (mkB (Lib.toUpperA s.data.toList))) ∧ Below w.heap.size w w' :=
  Any.strings_ToUpper_ascii Tryz.lays158 Tryz.Builder_Extra_158 s w (by omega) fun j b hb => okc_ascii b (List.all_eq_true.1 ha b (List.mem_of_getElem? hb))
theorem replace_any (s : ByteArray) (w : World) (hs : s.size ≤ 4294967280) (hm : MaxI w) :
    Calls Tryz.prog 67 #[.string s, .string ⟨#[46]⟩, .string ⟨#[95]⟩] w fun e w' => e = .returned (.string (mkB (Lib.replaceAll s.data.toList [46] [95]))) ∧ Below w.heap.size w w' := by
  obtain ⟨m, hm⟩ := hm
  refine Any.strings_ReplaceAll Tryz.lays155 Tryz.Builder_Extra_155 s ⟨#[46]⟩ ⟨#[95]⟩ m w (by omega) hm (by decide) ?_
  have h1 : Lib.countB s ⟨#[46]⟩ ≤ s.size := by
    show Lib.count s.data.toList [46] ≤ s.size
    rw [Lib.count_one]
    have := List.count_le_length (a := (46 : UInt8)) (l := s.data.toList)
    have e : s.data.toList.length = s.size := by simp
    omega
  have h2 : (⟨#[95]⟩ : ByteArray).size = 1 := rfl
  rw [h2]; omega
set_option maxRecDepth 100000 in
theorem called_any (s : ByteArray) (w : World) (hs : s.size ≤ 4294967280) (ha : s.data.toList.all okc = true) (hm : MaxI w) :
    Calls Tryz.prog 40 #[.string s] w fun e w' => e = .returned (.string (mkB (calledL s.data.toList))) ∧ Below w.heap.size w w' := by
  have HU := Lib.hid (upper_any s w hs ha)
  have hl : (mkB (Lib.toUpperA s.data.toList)).data.toList = Lib.toUpperA s.data.toList := by simp [mkB]
  have hz : (mkB (Lib.toUpperA s.data.toList)).size = s.size := by
    have : (mkB (Lib.toUpperA s.data.toList)).data.toList.length = (mkB (Lib.toUpperA s.data.toList)).size := by simp
    rw [← this, hl]; unfold Lib.toUpperA; simp
  have HR : Hid (∀ W, Below w.heap.size w W → Calls Tryz.prog 67 #[.string (mkB (Lib.toUpperA s.data.toList)), .string ⟨#[46]⟩, .string ⟨#[95]⟩] W fun e w' => e = .returned (.string (mkB (calledL s.data.toList))) ∧ Below W.heap.size W w') := Lib.hid fun W hb => by
    refine (replace_any _ W (by omega) (hm.below hb)).mono ?_
    rw [hl, called_lib]
    exact fun _ _ h => h
  clear hl hz hs hm
  generalize mkB (Lib.toUpperA s.data.toList) = U at HU HR
  generalize mkB (calledL s.data.toList) = V at HR ⊢
  go_enter Tryz.func40, Tryz.ntmps40
  go_wp2_with fail
  refine HU.out.mono ?_
  rintro e w1 ⟨rfl, hb1⟩
  have HB1 := Lib.hid hb1
  clear hb1
  go_wp2_with fail
  refine (HR.out _ HB1.out).mono ?_
  rintro e w2 ⟨rfl, hb2⟩
  have HB2 := Lib.hid (HB1.out.trans (hb2.mono HB1.out.size))
  clear hb2
  go_wp2
  go_ret
  exact ⟨rfl, HB2.out⟩
set_option maxRecDepth 100000 in
theorem ename_any (s : ByteArray) (w : World) (hs : s.size ≤ 4294967280) (hT : Tab w) (hm : MaxI w) :
    Calls Tryz.prog 17 #[.string s] w fun e w' => e = .returned (nameV s.data.toList) ∧ Below w.heap.size w w' := by
  have HN : Hid (Calls Tryz.prog 39 #[.string s] w fun e w' => e = .returned (.bool (nameB s.data.toList)) ∧ w = w') := Lib.hid (isName_any s w hT (by unfold maxLen; omega))
  unfold nameV
  cases hn : nameB s.data.toList with
  | true =>
    rw [hn] at HN
    have HC := Lib.hid (called_any s w hs (name_ok hn) hm)
    rw [if_pos rfl]
    clear hs hT hm hn
    generalize mkB (calledL s.data.toList) = V at HC ⊢
    go_enter Tryz.func17, Tryz.ntmps17
    go_wp2_with fail
    refine HN.out.mono ?_
    rintro e w1 ⟨rfl, rfl⟩
    go_wp2_with fail
    refine HC.out.mono ?_
    rintro e w2 ⟨rfl, hb⟩
    have HB := Lib.hid hb
    clear hb
    go_wp2
    go_ret2
    exact ⟨rfl, HB.out⟩
  | false =>
    rw [hn] at HN
    rw [if_neg (by decide)]
    clear hs hT hm hn
    have HB := Lib.hid (Below.refl w.heap.size w)
    go_enter Tryz.func17, Tryz.ntmps17
    go_wp2_with fail
    refine HN.out.mono ?_
    rintro e w1 ⟨rfl, rfl⟩
    go_wp2
    go_ret2
    exact ⟨rfl, HB.out⟩
end Go.Proofs.YtbgoooljkdjjhaaGreatDoor
