/-
  ValueRead.
-/
import Derived.Test.YtbgoooljkdjjhaaGreatDoorQValueMath
import Derived.Laws.RangeAny
import Derived.LoopTactic
import Derived.IntWalk
import Derived.Outline
namespace Go.Proofs.YtbgoooljkdjjhaaGreatDoor
open Go.ChangeShapes Go.WideShapes Go.ChangeAt Go.RowKit

theorem below_iter (w : World) (s : ByteArray) (pos : Nat) : Below w.heap.size w (w.iter s pos) := (Below.refl _ _).alloc (Nat.le_refl _) _
theorem allText_cons (c : UInt8) (r : List UInt8) : allText (c :: r) = (printB c.toNat && allText r) := by simp [allText]
theorem printB_high {b : Int} (h : 126 < b) : printB b = false := by simp [printB]; intros; omega

set_option maxHeartbeats 400000 in
theorem isText_any (s : ByteArray) (w : World) (hs : s.size ≤ maxLen) :
    Calls Tryz.prog 138 #[.string s] w fun e w' => e = .returned (.bool (allText s.data.toList)) ∧ Below w.heap.size w w' := by
  unfold maxLen at hs
  go_enter Tryz.func138, Tryz.ntmps138
  go_wp2
  go_loopw [4] (fun _ w' => ∃ pos : Nat, pos ≤ s.size ∧ w' = w.iter s pos ∧ Hid (allText s.data.toList = allText (s.data.toList.drop pos))) (fun _ w' => s.size - w'.iterPos w.heap.size)
  case atStart => exact ⟨0, by omega, rfl, Lib.hid rfl⟩
  case round =>
    obtain ⟨pos, hk, rfl, HR⟩ := hrel
    by_cases hp : pos < s.size
    · have HD := Lib.hid (drop_byte s pos hp)
      by_cases ha : s[pos].toNat < 128
      · have hnx : ∀ ty, (Instr.next (.pointer (some ⟨w.heap.size, 0, none⟩)) true ty).run Tryz.prog (w.iter s pos) = _ := fun ty => run_next_ascii w s pos ty hp ha
        by_cases h1 : 32 ≤ s[pos].toNat
        · by_cases h2 : s[pos].toNat ≤ 126
          · have hb : printB s[pos].toNat = true := by simp [printB]; omega
            have HB := Lib.hid hb
            have d1 : decide ((s[pos].toNat : Int) < 32) = false := decide_eq_false (by omega)
            have d2 : decide (126 < (s[pos].toNat : Int)) = false := decide_eq_false (by omega)
            clear hb
            go_wp2
            go_roundw
            case rel => exact ⟨pos + 1, by omega, rfl, Lib.hid (by rw [HR.out, HD.out, allText_cons, HB.out]; rfl)⟩
            case measure => simp; omega
          · have hb : printB s[pos].toNat = false := printB_high (by omega)
            have HB := Lib.hid hb
            have d1 : decide ((s[pos].toNat : Int) < 32) = false := decide_eq_false (by omega)
            have d2 : decide (126 < (s[pos].toNat : Int)) = true := decide_eq_true (by omega)
            clear hb
            go_wp2
            go_ret
            exact ⟨ret_bool (by rw [HR.out, HD.out, allText_cons, HB.out]; rfl), below_iter _ _ _⟩
        · have hb : printB s[pos].toNat = false := by simp [printB]; omega
          have HB := Lib.hid hb
          have d1 : decide ((s[pos].toNat : Int) < 32) = true := decide_eq_true (by omega)
          clear hb
          go_wp2
          go_ret
          exact ⟨ret_bool (by rw [HR.out, HD.out, allText_cons, HB.out]; rfl), below_iter _ _ _⟩
      · have hnx : ∀ ty, (Instr.next (.pointer (some ⟨w.heap.size, 0, none⟩)) true ty).run Tryz.prog (w.iter s pos) = _ := fun ty => run_next_any w s pos ty hp
        have hh := decode_high s pos hp (by omega)
        have HB := Lib.hid (printB_high (b := s[pos].toNat) (by omega))
        obtain ⟨r, hr⟩ : ∃ r, Utf8.decode s pos = r := ⟨_, rfl⟩
        rw [hr] at hnx hh
        obtain ⟨r1, r2⟩ := r
        simp only at hnx hh
        obtain ⟨hh, _⟩ := hh
        have d1 : decide (r1 < 32) = false := decide_eq_false (by omega)
        have d2 : decide (126 < r1) = true := decide_eq_true (by omega)
        clear hr ha
        go_wp2
        go_ret
        exact ⟨ret_bool (by rw [HR.out, HD.out, allText_cons, HB.out]; rfl), below_iter _ _ _⟩
    · have hnx : ∀ ty, (Instr.next (.pointer (some ⟨w.heap.size, 0, none⟩)) true ty).run Tryz.prog (w.iter s pos) = _ := fun ty => run_next_end w s pos ty hp
      go_wp2
      go_ret
      exact ⟨ret_bool (by rw [HR.out, List.drop_eq_nil_of_le (by simp; omega)]; rfl), below_iter _ _ _⟩

theorem cls_digit {b : Int} : cls b = 3 ↔ 48 ≤ b ∧ b ≤ 57 := by
  unfold cls; repeat' split
  all_goals omega
theorem takeWhile_cons_yes {c : UInt8} {r : List UInt8} (h : isD c = true) : (c :: r).takeWhile isD = c :: r.takeWhile isD := by simp [List.takeWhile, h]
theorem takeWhile_cons_no {c : UInt8} {r : List UInt8} (h : isD c = false) : (c :: r).takeWhile isD = [] := by simp [List.takeWhile, h]
/-- How many digits a text begins with. -/
def nDig (l : List UInt8) : Nat := (l.takeWhile isD).length
theorem nDig_yes {c : UInt8} {r : List UInt8} (h : isD c = true) : nDig (c :: r) = nDig r + 1 := by simp [nDig, takeWhile_cons_yes h]
theorem nDig_no {c : UInt8} {r : List UInt8} (h : isD c = false) : nDig (c :: r) = 0 := by simp [nDig, takeWhile_cons_no h]
theorem nDig_le (l : List UInt8) : nDig l ≤ l.length := (List.takeWhile_sublist _).length_le
theorem ret_int {k : IntKind} {a b : Int} (h : a = b) : Ending.returned (.int k a) = .returned (.int k b) := by rw [h]

set_option maxHeartbeats 400000 in
theorem digits_any (s : ByteArray) (w : World) (hT : Tab w) (hs : s.size ≤ maxLen) :
    Calls Tryz.prog 157 #[.string s] w fun e w' => e = .returned (.int .i64 (nDig s.data.toList)) ∧ Below w.heap.size w w' := by
  unfold maxLen at hs
  go_enter Tryz.func157, Tryz.ntmps157
  go_wp2
  go_loopw [3] (fun _ w' => ∃ pos : Nat, pos ≤ s.size ∧ w' = w.iter s pos ∧ Hid (nDig s.data.toList = pos + nDig (s.data.toList.drop pos))) (fun _ w' => s.size - w'.iterPos w.heap.size)
  case atStart => exact ⟨0, by omega, rfl, Lib.hid (by simp)⟩
  case round =>
    obtain ⟨pos, hk, rfl, HR⟩ := hrel
    by_cases hp : pos < s.size
    · have HD := Lib.hid (drop_byte s pos hp)
      have hTi : ∀ p, Tab (w.iter s p) := fun p => hT.below (below_iter w s p)
      by_cases ha : s[pos].toNat < 128
      · have hnx : ∀ ty, (Instr.next (.pointer (some ⟨w.heap.size, 0, none⟩)) true ty).run Tryz.prog (w.iter s pos) = _ := fun ty => run_next_ascii w s pos ty hp ha
        by_cases hb : isD s[pos] = true
        · have HB := Lib.hid hb
          have d1 : (cls s[pos].toNat != 3) = false := ne_false (cls_digit.2 (by simp [isD] at hb; omega))
          clear hb
          go_wp2_with fail
          refine (class_any _ _ (hTi _)).mono ?_
          rintro e w' ⟨rfl, rfl⟩
          go_wp2
          go_roundw
          case rel => exact ⟨pos + 1, by omega, rfl, Lib.hid (by rw [HR.out, HD.out, nDig_yes HB.out]; omega)⟩
          case measure => simp; omega
        · have hb' : isD s[pos] = false := by simpa using hb
          have HB := Lib.hid hb'
          have d1 : (cls s[pos].toNat != 3) = true := ne_true (fun h => by have := cls_digit.1 h; simp [isD] at hb; omega)
          clear hb hb'
          go_wp2_with fail
          refine (class_any _ _ (hTi _)).mono ?_
          rintro e w' ⟨rfl, rfl⟩
          go_wp2
          go_ret
          exact ⟨ret_int (by rw [HR.out, HD.out, nDig_no HB.out]; simp), below_iter _ _ _⟩
      · have hnx : ∀ ty, (Instr.next (.pointer (some ⟨w.heap.size, 0, none⟩)) true ty).run Tryz.prog (w.iter s pos) = _ := fun ty => run_next_any w s pos ty hp
        have hh := decode_high s pos hp (by omega)
        have hle := decode_le s pos
        have HB : Hid (isD s[pos] = false) := Lib.hid (by simp [isD]; omega)
        obtain ⟨r, hr⟩ : ∃ r, Utf8.decode s pos = r := ⟨_, rfl⟩
        rw [hr] at hnx hh hle
        obtain ⟨r1, r2⟩ := r
        simp only at hnx hh hle
        obtain ⟨hh, _⟩ := hh
        have d1 : (cls r1 != 3) = true := ne_true (fun h => by have := cls_digit.1 h; omega)
        clear hr ha
        go_wp2_with fail
        refine (class_any _ _ (hTi _)).mono ?_
        rintro e w' ⟨rfl, rfl⟩
        go_wp2
        go_ret
        exact ⟨ret_int (by rw [HR.out, HD.out, nDig_no HB.out]; simp), below_iter _ _ _⟩
    · have hnx : ∀ ty, (Instr.next (.pointer (some ⟨w.heap.size, 0, none⟩)) true ty).run Tryz.prog (w.iter s pos) = _ := fun ty => run_next_end w s pos ty hp
      have HB : Hid (nDig s.data.toList = s.size) := Lib.hid (by rw [HR.out, List.drop_eq_nil_of_le (by simp; omega)]; simp [nDig]; omega)
      go_wp2
      go_ret
      exact ⟨ret_int (by rw [HB.out]), below_iter _ _ _⟩


set_option maxHeartbeats 800000 in
set_option maxRecDepth 100000 in
theorem said_any (s : ByteArray) (w : World) (hD : s.data.toList.all isD = true) (hs : s.size ≤ maxLen) :
    Calls Tryz.prog 158 #[.string s] w fun e w' => e = .returned (.int .i64 (capN (dec s.data.toList))) ∧ Below w.heap.size w w' := by
  unfold maxLen at hs
  have HALL := Lib.hid hD
  clear hD
  go_enter Tryz.func158, Tryz.ntmps158
  go_wp2
  go_loopw [3, 5, 6] (fun n _ _ w' => ∃ pos : Nat, pos ≤ s.size ∧ w' = w.iter s pos ∧ ∃ m : Nat, n = .int .i64 m ∧ m ≤ 4611686018427387904 ∧ Hid (dec s.data.toList = decAcc m (s.data.toList.drop pos))) (fun _ _ _ w' => s.size - w'.iterPos w.heap.size)
  case atStart => exact ⟨0, by omega, rfl, 0, rfl, by omega, Lib.hid (by unfold dec; rw [List.drop_zero])⟩
  case round =>
    obtain ⟨pos, hk, rfl, m, rfl, hm, HR⟩ := hrel
    by_cases hp : pos < s.size
    · have HD := Lib.hid (drop_byte s pos hp)
      have hdg : isD s[pos] = true := List.all_eq_true.1 HALL.out _ (by simp [ByteArray.getElem_eq_getElem_data])
      obtain ⟨hd1, hd2⟩ : 48 ≤ s[pos].toNat ∧ s[pos].toNat ≤ 57 := by simpa [isD] using hdg
      have hnx : ∀ ty, (Instr.next (.pointer (some ⟨w.heap.size, 0, none⟩)) true ty).run Tryz.prog (w.iter s pos) = _ := fun ty => run_next_ascii w s pos ty hp (by omega)
      clear hdg
      have HRS : Hid (dec s.data.toList = decAcc (m * 10 + (s[pos].toNat - 48)) (s.data.toList.drop (pos + 1))) := Lib.hid (by rw [HR.out, HD.out, decAcc_cons, decS_eq])
      obtain ⟨d, hde⟩ : ∃ d : Nat, s[pos].toNat = d + 48 := ⟨s[pos].toNat - 48, by omega⟩
      have hdle : d ≤ 9 := by omega
      rw [hde] at hnx HRS
      clear hd1 hd2 hde HD
      have e0 : IntKind.i32.wrap (((d + 48 : Nat) : Int) - 48) = (d : Int) := by rw [IntWalk.i32_in _ (by omega)]; omega
      have e1 : ((d + 48 : Nat) : Int) - 48 = (d : Int) := by omega
      by_cases hc : m * 10 + d ≤ 4611686018427387904
      · have d1 : decide ((4611686018427387904 - (d : Int)).tdiv 10 < (m : Int)) = false := decide_eq_false (by rw [Int.tdiv_eq_ediv_of_nonneg (by omega)]; omega)
        have d2 : decide ((4611686018427387904 - (d : Int)) / 10 < (m : Int)) = false := decide_eq_false (by omega)
        go_wp2
        go_roundw
        case rel => exact ⟨pos + 1, by omega, rfl, m * 10 + d, by go_num, hc, Lib.hid (by rw [HRS.out]; simp)⟩
        case measure => simp; omega
      · have d1 : decide ((4611686018427387904 - (d : Int)).tdiv 10 < (m : Int)) = true := decide_eq_true (by rw [Int.tdiv_eq_ediv_of_nonneg (by omega)]; omega)
        have d2 : decide ((4611686018427387904 - (d : Int)) / 10 < (m : Int)) = true := decide_eq_true (by omega)
        go_wp2
        go_ret
        exact ⟨ret_int (by rw [cap_big (by rw [HRS.out]; have := decAcc_ge (m * 10 + (d + 48 - 48)) (s.data.toList.drop (pos + 1)); omega)]; rfl), below_iter _ _ _⟩
    · have hnx : ∀ ty, (Instr.next (.pointer (some ⟨w.heap.size, 0, none⟩)) true ty).run Tryz.prog (w.iter s pos) = _ := fun ty => run_next_end w s pos ty hp
      go_wp2
      go_ret
      exact ⟨ret_int (by rw [HR.out, List.drop_eq_nil_of_le (by simp; omega), decAcc_nil, cap_small hm]), below_iter _ _ _⟩


theorem nDig_take (l : List UInt8) : l.take (nDig l) = l.takeWhile isD := by
  unfold nDig
  induction l with
  | nil => rfl
  | cons c r ih =>
    by_cases h : isD c = true
    · rw [takeWhile_cons_yes h]; simp [ih]
    · rw [takeWhile_cons_no (by simpa using h)]; simp
theorem nDig_drop (l : List UInt8) : l.drop (nDig l) = l.dropWhile isD := by
  unfold nDig
  induction l with
  | nil => rfl
  | cons c r ih =>
    by_cases h : isD c = true
    · rw [takeWhile_cons_yes h]; simp [ih, List.dropWhile, h]
    · have h' : isD c = false := by simpa using h
      rw [takeWhile_cons_no h']; simp [List.dropWhile, h']
theorem takeWhile_all (l : List UInt8) : (l.takeWhile isD).all isD = true := by simp

/-- What 'number' answers. -/
def numOkS (l : List UInt8) : Bool := numOk (l.takeWhile isD)
theorem numOkS_zero {l : List UInt8} (h : nDig l = 0) : numOkS l = false := by
  have : l.takeWhile isD = [] := List.eq_nil_of_length_eq_zero h
  unfold numOkS; rw [this]; rfl
theorem first_of {s : ByteArray} (h : 0 < s.size) : s.data.toList = s[0] :: s.data.toList.drop 1 := by
  have := drop_byte s 0 h; simpa using this
theorem numOk_iff (c : UInt8) (r : List UInt8) : numOk (c :: r) = ((c :: r).all isD && (c != 48 || r.isEmpty)) := rfl
theorem numOkS_lead {s : ByteArray} (h0 : 0 < s.size) (h : 1 < nDig s.data.toList) (h48 : s[0].toNat = 48) : numOkS s.data.toList = false := by
  unfold numOkS
  have hs := first_of h0
  have hc : s[0] = 48 := UInt8.toNat_inj.1 h48
  have hd : isD s[0] = true := by simp [isD, hc]
  rw [hs, takeWhile_cons_yes hd, numOk_iff, hc]
  rw [hs, nDig_yes hd] at h
  have : ((s.data.toList.drop 1).takeWhile isD).isEmpty = false := by
    cases hh : (s.data.toList.drop 1).takeWhile isD with
    | nil => unfold nDig at h; rw [hh] at h; simp at h
    | cons a b => rfl
  rw [this]; simp
theorem numOkS_yes {s : ByteArray} (h0 : 0 < s.size) (h : 0 < nDig s.data.toList) (hq : s[0].toNat ≠ 48 ∨ nDig s.data.toList ≤ 1) : numOkS s.data.toList = true := by
  unfold numOkS
  have hs := first_of h0
  have hall := takeWhile_all s.data.toList
  by_cases hd : isD s[0] = true
  · rw [hs, takeWhile_cons_yes hd] at hall ⊢
    rw [numOk_iff, hall]
    rcases hq with hq | hq
    · have : (s[0] != 48) = true := by simpa using fun e => hq (by rw [e]; rfl)
      rw [this]; rfl
    · rw [hs, nDig_yes hd] at hq
      have : (s.data.toList.drop 1).takeWhile isD = [] := List.eq_nil_of_length_eq_zero (by unfold nDig at hq; omega)
      rw [this]; simp
  · rw [hs, nDig_no (by simpa using hd)] at h; omega

theorem str_extract (s : ByteArray) (a b : Nat) : (s.extract a b).data.toList = (s.data.toList.drop a).take (b - a) := by
  rw [Lib.extract_data]

set_option maxHeartbeats 800000 in
set_option maxRecDepth 100000 in
theorem number_no (s : ByteArray) (w : World) (hT : Tab w) (hs : s.size ≤ maxLen) (h : numOkS s.data.toList = false) :
    Calls Tryz.prog 135 #[.string s] w fun e w' => e = .returned (.tuple #[.int .i64 0, .string ⟨#[]⟩, .bool false]) ∧ Below w.heap.size w w' := by
  have hle := nDig_le s.data.toList
  have hsz : s.data.toList.length = s.size := by simp
  by_cases h0 : nDig s.data.toList = 0
  · clear h
    obtain ⟨n, hn⟩ : ∃ n, nDig s.data.toList = n := ⟨_, rfl⟩
    have HN := Lib.hid hn
    rw [hn] at h0
    subst h0
    clear hn hle hsz
    go_enter Tryz.func135, Tryz.ntmps135
    go_wp2_with fail
    refine (digits_any _ _ hT hs).mono ?_
    rintro e w' ⟨rfl, hb⟩
    rw [HN.out]
    go_wp2
    exact bodyPost_ret (v := .tuple #[.int .i64 0, .string ⟨#[]⟩, .bool false]) (by simp [results, Tryz.results135, go_sem]) rfl ⟨rfl, hb⟩
  · have hpos : 0 < s.size := by omega
    have h48 : s[0].toNat = 48 ∧ 1 < nDig s.data.toList := by
      refine Classical.byContradiction fun hc => ?_
      have := numOkS_yes hpos (by omega) (by by_cases q : s[0].toNat = 48 <;> omega)
      rw [h] at this; cases this
    obtain ⟨h48, h1⟩ := h48
    have d1 : ((s[0].toNat : Int) == 48) = true := beq_iff_eq.2 (by omega)
    obtain ⟨n, hn⟩ : ∃ n, nDig s.data.toList = n := ⟨_, rfl⟩
    rw [hn] at h1
    have HN := Lib.hid hn
    have d2 : ((n : Int) == 0) = false := beq_eq_false_iff_ne.2 (by omega)
    have d3 : decide (1 < (n : Int)) = true := decide_eq_true (by omega)
    clear hn h h0 hle hsz h48 h1
    go_enter Tryz.func135, Tryz.ntmps135
    go_wp2_with fail
    refine (digits_any _ _ hT hs).mono ?_
    rintro e w' ⟨rfl, hb⟩
    rw [HN.out]
    go_wp2
    exact bodyPost_ret (v := .tuple #[.int .i64 0, .string ⟨#[]⟩, .bool false]) (by simp [results, Tryz.results135, go_sem]) rfl ⟨rfl, hb⟩

end Go.Proofs.YtbgoooljkdjjhaaGreatDoor
