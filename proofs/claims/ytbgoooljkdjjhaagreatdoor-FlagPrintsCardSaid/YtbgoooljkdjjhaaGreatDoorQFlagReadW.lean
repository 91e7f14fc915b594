/-
  FlagShape, FlagWord, FlagRead, FlagReadW.
-/
import Derived.Test.YtbgoooljkdjjhaaGreatDoorQFlagReader
namespace Go.Proofs.YtbgoooljkdjjhaaGreatDoor
open Go.ChangeShapes Go.WideShapes Go.ChangeAt Go.RowKit

/-- The first shape that an argument has. -/
def shapeF (a : List UInt8) : Int :=
  if a = [45, 45] then 0 else if a = [45] ∨ Lib.hasPrefix a [45] = false then 1 else if a = [45, 45, 104, 101, 108, 112] ∨ a = [45, 104] then 2 else if Lib.hasPrefix a [45, 45] = true then 3 else 4
theorem fprefix_any (s p : ByteArray) (w : World) : Calls Tryz.prog 100 #[.string s, .string p] w fun e w' => e = .returned (.bool (Lib.hasPrefix s.data.toList p.data.toList)) ∧ w = w' :=
  (Any.strings_HasPrefix Tryz.lays99 s p w).mono fun _ _ ⟨he, hw⟩ => ⟨he, hw.symm⟩
set_option maxHeartbeats 1600000 in
set_option maxRecDepth 100000 in
theorem shape_any (a : ByteArray) (w : World) : Calls Tryz.prog 73 #[.string a] w fun e w' => e = .returned (.int .i64 (shapeF a.data.toList)) ∧ w = w' := by
  have hq : ∀ l : List UInt8, (a.toList == l) = decide (a.data.toList = l) := fun l => by
    rw [toList_eq]
    by_cases h : a.data.toList = l
    · rw [h]; simp
    · rw [decide_eq_false h, beq_eq_false_iff_ne]; exact h
  have h0 := hq [45, 45]
  have h1 := hq [45]
  have h2 := hq [45, 45, 104, 101, 108, 112]
  have h3 := hq [45, 104]
  obtain ⟨r, hr⟩ : ∃ r, shapeF a.data.toList = r := ⟨_, rfl⟩
  rw [hr]
  have HP : Hid (∀ W, Calls Tryz.prog 100 #[.string a, .string ⟨#[45]⟩] W fun e w' => e = .returned (.bool (Lib.hasPrefix a.data.toList [45])) ∧ W = w') := Lib.hid fun W => fprefix_any a ⟨#[45]⟩ W
  have HPP : Hid (∀ W, Calls Tryz.prog 100 #[.string a, .string ⟨#[45, 45]⟩] W fun e w' => e = .returned (.bool (Lib.hasPrefix a.data.toList [45, 45])) ∧ W = w') := Lib.hid fun W => fprefix_any a ⟨#[45, 45]⟩ W
  obtain ⟨p1, hp1⟩ : ∃ p, Lib.hasPrefix a.data.toList [45] = p := ⟨_, rfl⟩
  obtain ⟨p2, hp2⟩ : ∃ p, Lib.hasPrefix a.data.toList [45, 45] = p := ⟨_, rfl⟩
  have HR : Hid (r = if a.data.toList = [45, 45] then 0 else if a.data.toList = [45] ∨ p1 = false then 1 else if a.data.toList = [45, 45, 104, 101, 108, 112] ∨ a.data.toList = [45, 104] then 2 else if p2 = true then 3 else 4) := Lib.hid (by rw [← hr, ← hp1, ← hp2]; rfl)
  rw [hp1] at HP
  rw [hp2] at HPP
  clear hr hp1 hp2 hq
  by_cases c0 : a.data.toList = [45, 45]
  · rw [decide_eq_true c0] at h0
    have HE : Hid (r = 0) := Lib.hid (by rw [HR.out, if_pos c0])
    clear h1 h2 h3 c0
    go_enter Tryz.func73, Tryz.ntmps73
    go_wp2
    go_ret
    exact ⟨by rw [HE.out]; first | done | rfl, rfl⟩
  rw [decide_eq_false c0] at h0
  by_cases c1 : a.data.toList = [45]
  · rw [decide_eq_true c1] at h1
    have HE : Hid (r = 1) := Lib.hid (by rw [HR.out, if_neg c0, if_pos (.inl c1)])
    clear h2 h3 c0 c1
    go_enter Tryz.func73, Tryz.ntmps73
    go_wp2
    go_ret
    exact ⟨by rw [HE.out]; first | done | rfl, rfl⟩
  rw [decide_eq_false c1] at h1
  cases p1 with
  | false =>
    have HE : Hid (r = 1) := Lib.hid (by rw [HR.out, if_neg c0, if_pos (.inr rfl)])
    clear h2 h3 c0 c1
    go_enter Tryz.func73, Tryz.ntmps73
    go_wp2_with fail
    refine (HP.out _).mono ?_
    rintro e w' ⟨rfl, rfl⟩
    go_wp2
    go_ret
    exact ⟨by rw [HE.out]; first | done | rfl, rfl⟩
  | true =>
    have c4 : ¬ (a.data.toList = [45] ∨ true = false) := fun h => by rcases h with h | h; exact c1 h; cases h
    by_cases c2 : a.data.toList = [45, 45, 104, 101, 108, 112]
    · rw [decide_eq_true c2] at h2
      have HE : Hid (r = 2) := Lib.hid (by rw [HR.out, if_neg c0, if_neg c4, if_pos (.inl c2)])
      clear h3 c0 c1 c2 c4
      go_enter Tryz.func73, Tryz.ntmps73
      go_wp2_with fail
      refine (HP.out _).mono ?_
      rintro e w' ⟨rfl, rfl⟩
      go_wp2
      go_ret
      exact ⟨by rw [HE.out]; first | done | rfl, rfl⟩
    rw [decide_eq_false c2] at h2
    by_cases c3 : a.data.toList = [45, 104]
    · rw [decide_eq_true c3] at h3
      have HE : Hid (r = 2) := Lib.hid (by rw [HR.out, if_neg c0, if_neg c4, if_pos (.inr c3)])
      clear c0 c1 c2 c3 c4
      go_enter Tryz.func73, Tryz.ntmps73
      go_wp2_with fail
      refine (HP.out _).mono ?_
      rintro e w' ⟨rfl, rfl⟩
      go_wp2
      go_ret
      exact ⟨by rw [HE.out]; first | done | rfl, rfl⟩
    rw [decide_eq_false c3] at h3
    have c5 : ¬ (a.data.toList = [45, 45, 104, 101, 108, 112] ∨ a.data.toList = [45, 104]) := fun h => by rcases h with h | h; exact c2 h; exact c3 h
    have HE : Hid (r = if p2 = true then 3 else 4) := Lib.hid (by rw [HR.out, if_neg c0, if_neg c4, if_neg c5])
    clear c0 c1 c2 c3 c4 c5
    cases p2 with
    | true =>
      rw [if_pos rfl] at HE
      go_enter Tryz.func73, Tryz.ntmps73
      go_wp2_with fail
      refine (HP.out _).mono ?_
      rintro e w' ⟨rfl, rfl⟩
      go_wp2_with fail
      refine (HPP.out _).mono ?_
      rintro e w' ⟨rfl, rfl⟩
      go_wp2
      go_ret
      exact ⟨by rw [HE.out]; first | done | rfl, rfl⟩
    | false =>
      rw [if_neg (by decide)] at HE
      go_enter Tryz.func73, Tryz.ntmps73
      go_wp2_with fail
      refine (HP.out _).mono ?_
      rintro e w' ⟨rfl, rfl⟩
      go_wp2_with fail
      refine (HPP.out _).mono ?_
      rintro e w' ⟨rfl, rfl⟩
      go_wp2
      go_ret
      exact ⟨by rw [HE.out]; first | done | rfl, rfl⟩
end Go.Proofs.YtbgoooljkdjjhaaGreatDoor

namespace Go.Proofs.YtbgoooljkdjjhaaGreatDoor
open Go.ChangeShapes Go.WideShapes Go.ChangeAt Go.RowKit

set_option maxHeartbeats 3200000 in
set_option maxRecDepth 100000 in
theorem giveNext_none (B : Nat) (b : RB) (w : World) (s : RS) (h : RdF B b w s) (hB : B ≤ w.heap.size) (k : KeyV) (at_ : Int) (hk : s.k = b.args.length) :
    Calls Tryz.prog 103 #[.pointer (some ⟨b.R, 0, none⟩), kAgg k, .int .i64 at_] w fun e w' => e = .returned (.int .i64 72) ∧ Below w.heap.size w w' := by
  have HTK : Hid (∀ o, Calls Tryz.prog 72 #[.pointer (some ⟨b.N, 0, none⟩), .pointer (some ⟨b.A, 0, none⟩)] (w.alloc o) fun e w' => e = .returned (.tuple #[.string ⟨#[]⟩, .int .i64 0, .bool false]) ∧ w.alloc o = w') := Lib.hid fun o => by
    refine (take_no B b (w.alloc o) s (h.below (below_one w o) hB) hk).mono ?_
    rintro e w' ⟨rfl, rfl⟩
    exact ⟨rfl, rfl⟩
  have e1 : ∀ o, (w.alloc o).cell? ⟨b.R, 1, none⟩ = some (takeF b) := fun o => (h.below (below_one w o) hB).cells.2.1
  have HB0 : Hid (∀ o, Below w.heap.size w (w.alloc o)) := Lib.hid (below_one w)
  unfold takeF at e1
  clear h hk hB
  obtain ⟨nm, kd, dl, la, lb, le⟩ := k
  unfold kAgg
  go_enter Tryz.func103, Tryz.ntmps103
  go_wp2_with fail
  refine (HTK.out _).mono ?_
  rintro e w2 ⟨rfl, rfl⟩
  go_wp2
  go_ret
  exact ⟨rfl, HB0.out _⟩

/-- So many are left so far. -/
def LeftAt (B : Nat) (b : RB) (w : World) (s : RS) (m : Nat) (wr : World) : Prop :=
  ∃ rv, RdF B b wr { s with k := min (m + 1) b.args.length, rv := rv, rs := s.rs ++ (b.args.take m).drop s.k } ∧ Below B w wr ∧ B ≤ wr.heap.size
/-- What is left to take, and whether one is in hand. -/
def toTake (b : RB) (v : Value) (wr : World) : Nat := (match wr.cell? ⟨b.N, 0, none⟩ with | some (.int _ k) => b.args.length - k.toNat | _ => 0) + (match v with | .bool true => 1 | _ => 0)
theorem toTake_is {B : Nat} {b : RB} {w wr : World} {s : RS} {m : Nat} (h : LeftAt B b w s m wr) (o : Bool) : toTake b (.bool o) wr = b.args.length - min (m + 1) b.args.length + (if o then 1 else 0) := by
  obtain ⟨rv, hr, _, _⟩ := h
  unfold toTake
  rw [hr.cellN.1]
  cases o <;> simp
set_option maxHeartbeats 3200000 in
set_option maxRecDepth 100000 in
theorem leaveAll_any (B : Nat) (b : RB) (w : World) (s : RS) (h : RdF B b w s) (hB : B ≤ w.heap.size) (hz : ∀ t ∈ b.args, t.size ≤ 4294967280) (hl : b.args.length ≤ 2147483647) (hrl : s.rs.length ≤ 2147483000) :
    Calls Tryz.prog 74 #[.pointer (some ⟨b.R, 0, none⟩)] w fun e w' => e = .returned (.tuple #[]) ∧ ∃ rv, RdF B b w' { s with k := b.args.length, rv := rv, rs := s.rs ++ b.args.drop s.k } ∧ Below B w w' := by
  have hle := h.le
  have HZ := Lib.hid hz
  -- what is taken next, the loop's head behind it
  have HTK : Hid (∀ W m rv, s.k ≤ m → m ≤ b.args.length → RdF B b W { s with k := m, rv := rv, rs := s.rs ++ (b.args.take m).drop s.k } → Below B w W → B ≤ W.heap.size →
      Calls Tryz.prog 72 #[.pointer (some ⟨b.N, 0, none⟩), .pointer (some ⟨b.A, 0, none⟩)] W fun e w' => (∃ (a : ByteArray) (i : Int) (o : Bool), e = .returned (.tuple #[.string a, .int .i64 i, .bool o]) ∧ o = decide (m < b.args.length) ∧ ∀ hm : m < b.args.length, a = b.args[m]) ∧ LeftAt B b w s m w') := Lib.hid fun W m rv hsm hm hr hb hBW => by
    by_cases hlt : m < b.args.length
    · refine (take_yes B b W _ hr hlt (by omega)).mono ?_
      rintro e w' ⟨rfl, rfl⟩
      have hn := hr.next hlt
      refine ⟨⟨_, _, _, rfl, (decide_eq_true hlt).symm, fun _ => rfl⟩, rv, ?_, hb.setCell (p := ⟨b.N, 0, none⟩) hr.lN _, by simpa [World.setCell] using hBW⟩
      rw [Nat.min_eq_left (by omega)]
      exact hn
    · have he : m = b.args.length := by omega
      refine (take_no B b W _ hr he).mono ?_
      rintro e w' ⟨rfl, rfl⟩
      refine ⟨⟨_, _, _, rfl, (decide_eq_false hlt).symm, fun hm => absurd hm hlt⟩, rv, ?_, hb, hBW⟩
      rw [Nat.min_eq_right (by omega)]
      rw [he] at hr ⊢
      exact hr
  have H0 : Hid (RdF B b w { s with k := s.k, rv := s.rv, rs := s.rs ++ (b.args.take s.k).drop s.k }) := Lib.hid (by
    rw [List.drop_eq_nil_of_le (by rw [List.length_take]; omega), List.append_nil]
    exact h)
  have HLV : Hid (∀ W m, s.k ≤ m → ∀ hm : m < b.args.length, LeftAt B b w s m W → Calls Tryz.prog 75 #[.pointer (some ⟨b.R, 0, none⟩), .string b.args[m]] W fun e w' => e = .returned (.tuple #[]) ∧ (∃ rv, RdF B b w' { s with k := m + 1, rv := rv, rs := s.rs ++ (b.args.take (m + 1)).drop s.k }) ∧ Below B w w' ∧ B ≤ w'.heap.size) := Lib.hid fun W m hsm hm hL => by
    obtain ⟨rv, hr, hb, hBW⟩ := hL
    have hdl : ((b.args.take m).drop s.k).length ≤ b.args.length := by rw [List.length_drop, List.length_take]; omega
    refine (leave_any B b W _ hr hBW b.args[m] (HZ.out _ (List.getElem_mem hm)) (by rw [List.length_append]; omega)).mono ?_
    rintro e w' ⟨rfl, v2, hr2, hb2⟩
    refine ⟨rfl, ⟨v2, ?_⟩, hb.trans hb2, Nat.le_trans hBW hb2.size⟩
    rw [Nat.min_eq_left (by omega)] at hr2
    rw [List.take_succ_eq_append_getElem hm, List.drop_append_of_le_length (by rw [List.length_take]; omega), ← List.append_assoc]
    exact hr2
  have HCE : Hid (∀ W m, LeftAt B b w s m W → W.cell? ⟨b.R, 1, none⟩ = some (takeF b)) := Lib.hid fun W m ⟨rv, hr, _, _⟩ => hr.cells.2.1
  have HCR : Hid (∀ W s', RdF B b W s' → W.cell? ⟨b.R, 1, none⟩ = some (takeF b)) := Lib.hid fun W s' hr => hr.cells.2.1
  have e1 : w.cell? ⟨b.R, 1, none⟩ = some (takeF b) := h.cells.2.1
  obtain ⟨n, hn⟩ : ∃ n, b.args.length = n := ⟨_, rfl⟩
  have HN := Lib.hid hn
  have HEND : Hid (∀ W, LeftAt B b w s n W → ∃ rv, RdF B b W { s with k := b.args.length, rv := rv, rs := s.rs ++ b.args.drop s.k } ∧ Below B w W) := Lib.hid fun W ⟨rv, hr, hb, _⟩ => by
    refine ⟨rv, ?_, hb⟩
    rw [Nat.min_eq_right (by omega), List.take_of_length_le (by omega)] at hr
    exact hr
  rw [hn] at hle hl
  unfold takeF at e1 HCE HCR
  clear h hn hz
  have HB0 : Hid (Below B w w) := Lib.hid (Below.refl _ _)
  go_enter Tryz.func74, Tryz.ntmps74
  go_wp2_with fail
  refine (HTK.out w s.k s.rv (Nat.le_refl _) (by rw [HN.out]; exact hle) H0.out HB0.out hB).mono ?_
  rintro e w2 ⟨⟨a, i, o, rfl, ho, ha⟩, hL⟩
  rw [HN.out] at ho
  have HL := Lib.hid hL
  have HA := Lib.hid ha
  clear hL ha e1
  go_wp2
  go_loopw [2, 4] (fun u v wr => ∃ (m : Nat) (a : ByteArray) (o : Bool), u = .string a ∧ v = .bool o ∧ s.k ≤ m ∧ m ≤ n ∧ o = decide (m < n) ∧ Hid (∀ hm : m < b.args.length, a = b.args[m]) ∧ Hid (LeftAt B b w s m wr)) (fun _ v wr => toTake b v wr)
  case atStart => exact ⟨s.k, a, decide (s.k < n), rfl, rfl, Nat.le_refl _, hle, rfl, HA, HL⟩
  case round =>
    clear HA HL
    obtain ⟨m, a, o, rfl, rfl, hsm, hmn, ho, HA, HL⟩ := hrel
    by_cases hlt : m < n
    · rw [decide_eq_true hlt] at ho
      subst ho
      have hm : m < b.args.length := by rw [HN.out]; exact hlt
      have HLV2 := Lib.hid (HLV.out wr m hsm hm HL.out)
      rw [← HA.out hm] at HLV2
      have HME := Lib.hid (toTake_is HL.out true)
      clear HA hm
      go_wp2_with fail
      refine HLV2.out.mono ?_
      rintro e w3 ⟨rfl, ⟨rv3, hr3⟩, hb3, hB3⟩
      have e1 := HCR.out _ _ hr3
      have HT4 := Lib.hid (HTK.out w3 (m + 1) rv3 (by omega) (by rw [HN.out]; omega) hr3 hb3 hB3)
      clear hr3 hb3 hB3 HLV2
      go_wp2_with fail
      refine HT4.out.mono ?_
      rintro e w4 ⟨⟨a4, i4, o4, rfl, ho4, ha4⟩, hL4⟩
      rw [HN.out] at ho4
      have HA4 := Lib.hid ha4
      have HL4 := Lib.hid hL4
      have HM4 := Lib.hid (toTake_is hL4 o4)
      have HO4 := Lib.hid ho4
      clear ha4 hL4 e1 HT4 ho4
      go_wp2
      go_roundw
      case rel => exact ⟨m + 1, a4, o4, rfl, rfl, by omega, by omega, HO4.out, HA4, HL4⟩
      case measure =>
        have h1 := HME.out
        have h2 := HM4.out
        have h3 := HO4.out
        have h4 := HN.out
        rw [h4] at h1 h2
        rw [h1, h2, h3]
        by_cases hx : m + 1 < n
        · rw [decide_eq_true hx]; simp; omega
        · rw [decide_eq_false hx]; simp; omega
    · have hme : m = n := by omega
      subst hme
      rw [decide_eq_false hlt] at ho
      subst ho
      obtain ⟨rv, hr, hb⟩ := HEND.out _ HL.out
      have HR := Lib.hid hr
      have HB := Lib.hid hb
      clear hr hb
      go_wp2
      go_end0
      exact ⟨rfl, rv, HR.out, HB.out⟩
end Go.Proofs.YtbgoooljkdjjhaaGreatDoor

namespace Go.Proofs.YtbgoooljkdjjhaaGreatDoor
open Go.ChangeShapes Go.WideShapes Go.ChangeAt Go.RowKit

theorem fcutPrefix_any (s p : ByteArray) (w : World) : Calls Tryz.prog 133 #[.string s, .string p] w fun e w' => e = .returned (.tuple #[.string (mkB (Lib.trimPrefix s.data.toList p.data.toList)), .bool (Lib.hasPrefix s.data.toList p.data.toList)]) ∧ w = w' :=
  (Any.strings_CutPrefix Tryz.lays103 s p w).mono fun _ _ ⟨he, hw⟩ => ⟨he, hw.symm⟩
theorem ftrimPrefix_any (s p : ByteArray) (w : World) : Calls Tryz.prog 77 #[.string s, .string p] w fun e w' => e = .returned (.string (mkB (Lib.trimPrefix s.data.toList p.data.toList))) ∧ w = w' :=
  (Any.strings_TrimPrefix Tryz.lays101 s p w).mono fun _ _ ⟨he, hw⟩ => ⟨he, hw.symm⟩
theorem fcut_any (s : ByteArray) (d : UInt8) (w : World) (hs : s.size ≤ 4294967280) (hm : MaxI w) :
    Calls Tryz.prog 44 #[.string s, .string ⟨#[d]⟩] w fun e w' => e = .returned (.tuple #[.string (mkB (Lib.cut s.data.toList [d]).1), .string (mkB (Lib.cut s.data.toList [d]).2.1), .bool (Lib.cut s.data.toList [d]).2.2]) ∧ Below w.heap.size w w' := by
  obtain ⟨m, hm⟩ := hm
  exact (Any.strings_Cut Tryz.lays145 s ⟨#[d]⟩ m w (by omega) hm).mono fun _ _ ⟨he, n, hw⟩ => ⟨he, by rw [hw]; exact below_drewN w n⟩
set_option maxHeartbeats 1600000 in
set_option maxRecDepth 100000 in
theorem negated_no (R : Nat) (word : ByteArray) (w : World) (hp : Lib.hasPrefix word.data.toList [110, 111, 45] = false) :
    Calls Tryz.prog 101 #[.pointer (some ⟨R, 0, none⟩), .string word] w fun e w' => e = .returned (.tuple #[.agg #[.string ⟨#[]⟩, .int .i64 0, .string ⟨#[]⟩, .int .i64 0, .int .i64 0, .string ⟨#[]⟩], .bool false]) ∧ Below w.heap.size w w' := by
  have HC : Hid (∀ W, Calls Tryz.prog 133 #[.string word, .string ⟨#[110, 111, 45]⟩] W fun e w' => ∃ t, e = .returned (.tuple #[.string t, .bool false]) ∧ W = w') := Lib.hid fun W => by
    refine (fcutPrefix_any word ⟨#[110, 111, 45]⟩ W).mono ?_
    rintro e w' ⟨rfl, rfl⟩
    exact ⟨_, by rw [show Lib.hasPrefix word.data.toList (⟨#[110, 111, 45]⟩ : ByteArray).data.toList = false from hp], rfl⟩
  have HB : Hid (∀ o, Below w.heap.size w (w.alloc o)) := Lib.hid (below_one w)
  clear hp
  go_enter Tryz.func101, Tryz.ntmps101
  go_wp2_with fail
  refine (HC.out _).mono ?_
  rintro e w' ⟨t, rfl, rfl⟩
  go_wp2
  exact bodyPost_ret (v := .tuple #[.agg #[.string ⟨#[]⟩, .int .i64 0, .string ⟨#[]⟩, .int .i64 0, .int .i64 0, .string ⟨#[]⟩], .bool false]) (by simp [results, Tryz.results101, go_sem]) rfl ⟨rfl, by first | exact HB.out _ | exact below6 (HB.out _) (Nat.le_refl _) _ _ _ _ _ _⟩
end Go.Proofs.YtbgoooljkdjjhaaGreatDoor

namespace Go.Proofs.YtbgoooljkdjjhaaGreatDoor
open Go.ChangeShapes Go.WideShapes Go.ChangeAt Go.RowKit

set_option maxHeartbeats 3200000 in
set_option maxRecDepth 100000 in
theorem readWord_bool (B : Nat) (b : RB) (w : World) (s : RS) (h : RdF B b w s) (hB : B ≤ w.heap.size) (hm : MaxI w) (xs : List KeyV) (x : Option Addr) (c : Nat) (hS : SetAt w b.S x c xs) (hs : Sorted xs) (hn : xs.length ≤ 1000000)
    (word : ByteArray) (at_ : Int) (hw : word.size ≤ 4294967280) (hc : Lib.cut word.data.toList [61] = (word.data.toList, [], false)) (h0 : word ≠ ⟨#[]⟩) (hno : Lib.hasPrefix word.data.toList [110, 111, 45] = false) (k : KeyV) (hf : findK xs word = some k) (hk : k.kind = 1) (hkn : k.name.size ≤ 4294967280) (hgn : s.gs.length ≤ 4294967280) :
    Calls Tryz.prog 76 #[.pointer (some ⟨b.R, 0, none⟩), .string word, .int .i64 at_] w fun e w' => e = .returned (.int .i64 0) ∧ ∃ v2, RdF B b w' { s with gv := v2, gs := s.gs ++ [⟨k.name, ⟨#[116, 114, 117, 101]⟩, at_⟩] } ∧ Below B w w' := by
  have HCU : Hid (∀ W, Below w.heap.size w W → Calls Tryz.prog 44 #[.string word, .string ⟨#[61]⟩] W fun e w' => e = .returned (.tuple #[.string word, .string ⟨#[]⟩, .bool false]) ∧ Below W.heap.size W w') := Lib.hid fun W hb => by
    refine (fcut_any word 61 W hw (hm.below hb)).mono ?_
    rintro e w' ⟨rfl, hb2⟩
    rw [hc]
    exact ⟨by simp only [mkB_self]; rfl, hb2⟩
  have HFI : Hid (∀ W, Below w.heap.size w W → Calls Tryz.prog 37 #[.pointer (some ⟨b.S, 0, none⟩), .string word] W fun e w' => e = .returned (.tuple #[kAgg k, .bool true]) ∧ Below W.heap.size W w') := Lib.hid fun W hb => by
    refine (find_any xs word b.S x c W (hS.below hb) hs hn).mono ?_
    rintro e w' ⟨rfl, hb2⟩
    rw [hf]
    exact ⟨rfl, hb2⟩
  have HNE : Hid (∀ W, Calls Tryz.prog 101 #[.pointer (some ⟨b.R, 0, none⟩), .string word] W fun e w' => e = .returned (.tuple #[.agg #[.string ⟨#[]⟩, .int .i64 0, .string ⟨#[]⟩, .int .i64 0, .int .i64 0, .string ⟨#[]⟩], .bool false]) ∧ Below W.heap.size W w') := Lib.hid fun W => negated_no b.R word W hno
  have HGV : Hid (∀ W, Below w.heap.size w W → Calls Tryz.prog 102 #[.pointer (some ⟨b.R, 0, none⟩), kAgg k, .string ⟨#[116, 114, 117, 101]⟩, .int .i64 at_] W fun e w' => e = .returned (.tuple #[]) ∧ ∃ v2, RdF B b w' { s with gv := v2, gs := s.gs ++ [⟨k.name, ⟨#[116, 114, 117, 101]⟩, at_⟩] } ∧ Below B w w') := Lib.hid fun W hb => by
    refine (give_any B b W s (h.below hb hB) (Nat.le_trans hB hb.size) k _ at_ (by decide) hkn hgn).mono ?_
    rintro e w' ⟨rfl, v2, hr, hb2⟩
    exact ⟨rfl, v2, hr, (hb.mono hB).trans hb2⟩
  have HCE : Hid (∀ W, Below w.heap.size w W → W.cell? ⟨b.R, 0, none⟩ = some (.pointer (some ⟨b.S, 0, none⟩))) := Lib.hid fun W hb => (h.below hb hB).cells.1
  have HB0 : Hid (∀ o, Below w.heap.size w (w.alloc o)) := Lib.hid (below_one w)
  clear h hm hS hc hno hf hkn hgn
  obtain ⟨nm, kd, dl, la, lb, le⟩ := k
  simp only at hk
  subst hk
  unfold kAgg at HFI HGV
  simp only at HFI HGV ⊢
  go_enter Tryz.func76, Tryz.ntmps76
  go_wp2_with fail
  refine (HCU.out _ (Below.refl _ _)).mono ?_
  rintro e w1 ⟨rfl, hb1⟩
  have HB1 := Lib.hid hb1
  have e1 := HCE.out _ hb1
  clear hb1
  go_wp2_with fail
  refine (HFI.out _ HB1.out).mono ?_
  rintro e w2 ⟨rfl, hb2⟩
  have HB2 := Lib.hid (HB1.out.trans (hb2.mono HB1.out.size))
  have HX2 : Hid (∀ t0, Box6 (w2.alloc (Obj.cells #[.string nm, .int .i64 1, .string dl, .int .i64 la, .int .i64 lb, .string le] t0)) w2.heap.size ⟨nm, 1, dl, la, lb, le⟩) := Lib.hid fun t0 => box6_new w2 ⟨nm, 1, dl, la, lb, le⟩ t0
  clear hb2 e1
  go_wp2_with fail
  refine (HNE.out _).mono ?_
  rintro e w3 ⟨rfl, hb3⟩
  have HB3 := Lib.hid ((HB2.out.trans ((below_one w2 _).mono HB2.out.size)).trans (hb3.mono (HB2.out.trans ((below_one w2 _).mono HB2.out.size)).size))
  have HX3 := Lib.hid ((HX2.out _).below hb3)
  have HB4 : Hid (∀ o, Below w.heap.size w (w3.alloc o)) := Lib.hid fun o => HB3.out.trans ((below_one w3 o).mono HB3.out.size)
  have HX4 : ∀ o, Box6 (w3.alloc o) w2.heap.size ⟨nm, 1, dl, la, lb, le⟩ := fun o => HX3.out.below (below_one w3 o)
  have c0 := fun o => (HX4 o).c0
  have c1 := fun o => (HX4 o).c1
  have c2 := fun o => (HX4 o).c2
  have c3 := fun o => (HX4 o).c3
  have c4 := fun o => (HX4 o).c4
  have c5 := fun o => (HX4 o).c5
  simp only at c0 c1 c2 c3 c4 c5
  have he : word.toList.isEmpty = false := by
    cases hx : word.toList.isEmpty with
    | false => rfl
    | true =>
      rw [Lib.toList_data, List.isEmpty_iff] at hx
      exact absurd (by rw [← mkB_self word, hx]; rfl) h0
  clear hb3 HX4 h0
  go_wp2_with fail
  refine (HGV.out _ (HB4.out _)).mono ?_
  rintro e w5 ⟨rfl, v2, hr5, hb5⟩
  have HR5 := Lib.hid hr5
  have HB5 := Lib.hid hb5
  clear hr5 hb5
  go_wp2
  go_ret
  exact ⟨rfl, v2, HR5.out, HB5.out⟩
end Go.Proofs.YtbgoooljkdjjhaaGreatDoor
