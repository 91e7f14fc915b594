/-
  The walks of 'value.printed' and 'value.Print'.
-/
import Derived.Test.YtolibkcdfhbdiaaDoorValueRight
import Derived.Test.YtolibkcdfhbdiaaDoorValueBest
namespace Go.Proofs.YtolibkcdfhbdiaaDoor
open Go.ChangeShapes Go.WideShapes Go.ChangeAt Go.RowKit

theorem Pow.below {w w' : World} (h : Pow w) (hg : 6 < w.heap.size) (hb : Below w.heap.size w w') : Pow w' :=
  var?_below (g := 6) hb (by kernel_rfl) hg h
/-- What the tables of package value and of the library hold. -/
structure Std (w : World) : Prop where
  tab : Tab w
  units : Units w
  pow : Pow w
  powIn : 6 < w.heap.size
  maxI : MaxI w
theorem Std.below {w w' : World} (h : Std w) (hb : Below w.heap.size w w') : Std w' := ⟨h.tab.below hb, h.units.below hb, h.pow.below h.powIn hb, Nat.lt_of_lt_of_le h.powIn hb.size, h.maxI.below hb⟩
theorem mkB_append (a b : List UInt8) : mkB a ++ mkB b = mkB (a ++ b) := by
  rw [← mkB_self (mkB a ++ mkB b)]
  congr 1
theorem unitFor_pos (k n : Int) : 1 ≤ (unitFor k n).1 ∧ (unitFor k n).1 ≤ 1073741824 := by
  unfold unitFor; repeat' split
  all_goals simp

theorem nDigits_bd : ∀ (k u : Nat), u < 10 ^ (k + 1) → Lib.nDigits u ≤ k + 1
  | 0, u, h => by rw [Lib.nDigits_small (by simpa using h)]; omega
  | k + 1, u, h => by
    by_cases hs : u < 10
    · rw [Lib.nDigits_small hs]; omega
    · rw [Lib.nDigits_big hs]
      have := nDigits_bd k (u / 10) (by rw [Nat.pow_succ] at h; omega)
      omega
theorem itoa_len (n : Int) (h0 : -9223372036854775808 ≤ n) (h1 : n ≤ 9223372036854775807) : (Lib.itoa n).length ≤ 20 := by
  unfold Lib.itoa
  split
  · rw [List.length_cons, Lib.decDigits_length]
    have := nDigits_bd 18 n.natAbs (by have : (10 : Nat) ^ (18 + 1) = 10000000000000000000 := by decide
                                       omega)
    omega
  · rw [Lib.decDigits_length]
    have := nDigits_bd 18 n.toNat (by have : (10 : Nat) ^ (18 + 1) = 10000000000000000000 := by decide
                                      omega)
    omega
theorem unit_len (k n : Int) : (unitFor k n).2.length ≤ 1 := by
  unfold unitFor; repeat' split
  all_goals simp

set_option maxHeartbeats 3200000 in
set_option maxRecDepth 100000 in
theorem printed_any (w : World) (v : Val) (x : Option Addr) (c : Nat) (h : ArgOk w v x c) (hS : Std w) (hr : rightV v = true) :
    Calls Tryd.prog 43 #[argV v x c] w fun e w' => e = .returned (.string (mkB (printV v))) ∧ Below w.heap.size w w' := by
  obtain ⟨k, n, t, xs⟩ := v
  have hb0 : Hid (∀ o, Below w.heap.size w (w.alloc o)) := Lib.hid fun o => (Below.refl _ _).alloc (Nat.le_refl _) o
  have HS := Lib.hid hS
  have HA := Lib.hid h
  have HR := Lib.hid hr
  clear h hS hr
  obtain ⟨L, hLe⟩ : ∃ L, xs.length = L := ⟨_, rfl⟩
  have HL := Lib.hid hLe
  unfold argV
  simp only
  rw [hLe]
  clear hLe
  by_cases h1 : k = 1
  · subst h1
    obtain ⟨B, hB⟩ : ∃ B, (n == 1) = B := ⟨_, rfl⟩
    obtain ⟨J, hJ⟩ : ∃ J, mkB (if B then [116, 114, 117, 101] else [102, 97, 108, 115, 101]) = J := ⟨_, rfl⟩
    have HJ := Lib.hid hJ
    have HV : Hid (mkB (printV ⟨1, n, t, xs⟩) = J) := Lib.hid (by
      rw [← hJ, ← hB]; congr 1; unfold printV; rw [if_pos rfl]; simp only; by_cases hn : n = 1
      · rw [if_pos hn, if_pos (beq_iff_eq.2 hn)]
      · rw [if_neg hn, if_neg (fun h => hn (beq_iff_eq.1 h))])
    clear hJ
    go_enter Tryd.func43, Tryd.ntmps43
    go_wp2_with fail
    refine (fbool_any _ _).mono ?_
    rintro e w' ⟨rfl, rfl⟩
    rw [HJ.out]
    go_wp2
    go_ret
    exact ⟨ret_val (by rw [HV.out]; rfl), hb0.out _⟩
  by_cases h2 : k = 2
  · subst h2
    have hrange : Hid (-9223372036854775808 ≤ n ∧ n ≤ 9223372036854775807) := Lib.hid (by
      have h := HR.out
      unfold rightV at h
      rw [if_neg (by simp), if_pos rfl] at h
      simp only [Bool.and_eq_true, decide_eq_true_eq] at h
      omega)
    obtain ⟨J, hJ⟩ : ∃ J, mkB (Lib.itoa n) = J := ⟨_, rfl⟩
    have HJ := Lib.hid hJ
    have HV : Hid (mkB (printV ⟨2, n, t, xs⟩) = J) := Lib.hid (by rw [← hJ]; rfl)
    clear hJ
    go_enter Tryd.func43, Tryd.ntmps43
    go_wp2_with fail
    refine (itoa_any n hrange.out.1 hrange.out.2 _ (HS.out.below (hb0.out _)).pow).mono ?_
    rintro e w' ⟨rfl, hb⟩
    rw [HJ.out]
    have HB := Lib.hid ((hb0.out (.cells #[.int .i64 2, .int .i64 n, .string t, .slice x L c] 29)).trans (hb.mono (hb0.out _).size))
    clear hb
    go_wp2
    go_ret
    exact ⟨ret_val (by rw [HV.out]; rfl), HB.out⟩
  by_cases h3 : k = 3
  · subst h3
    have hrange : 0 ≤ n ∧ n ≤ 1125899906842624 := by
      have h := HR.out
      unfold rightV at h
      rw [if_neg (by simp), if_neg (by simp), if_pos (by simp)] at h
      simp only [Bool.and_eq_true, decide_eq_true_eq] at h
      exact h.1.1
    obtain ⟨r0, r1⟩ := hrange
    have hup := unitFor_pos 3 n
    obtain ⟨u, hu⟩ : ∃ u, (unitFor 3 n).1 = u := ⟨_, rfl⟩
    obtain ⟨nm, hnm⟩ : ∃ nm, mkB (unitFor 3 n).2 = nm := ⟨_, rfl⟩
    rw [hu] at hup
    obtain ⟨u0, u1⟩ := hup
    obtain ⟨q, hq⟩ : ∃ q, n / u = q := ⟨_, rfl⟩
    have hq0 : 0 ≤ q := by rw [← hq]; exact Int.ediv_nonneg r0 (by omega)
    have hq1 : q ≤ 9223372036854775807 := by rw [← hq]; have := Int.ediv_le_self u r0; omega
    have hqm : -9223372036854775808 ≤ q := by omega
    have hune : ¬ u = 0 := by omega
    have hwq : IntKind.i64.wrap q = q := IntWalk.i64_in _ (by omega)
    have ht1 : n.tdiv u = q := by rw [Int.tdiv_eq_ediv_of_nonneg r0, hq]
    have HV : Hid (mkB (printV ⟨3, n, t, xs⟩) = mkB (Lib.itoa q) ++ nm) := Lib.hid (by
      rw [← hnm, mkB_append, ← hq, ← hu]; rfl)
    have HU : Hid ((unitFor 3 n).1 = u ∧ mkB (unitFor 3 n).2 = nm) := Lib.hid ⟨hu, hnm⟩
    have HQ0 := Lib.hid hq
    have hs1 : (mkB (Lib.itoa q)).size ≤ 20 := by rw [mkB_size]; exact itoa_len q hqm hq1
    have hs2 : nm.size ≤ 1 := by rw [← hnm, mkB_size]; exact unit_len _ _
    have hcat : ¬ (9223372036854775807 < (mkB (Lib.itoa q)).size + nm.size) := by omega
    clear hu hnm hs1 hs2
    go_enter Tryd.func43, Tryd.ntmps43
    go_wp2_with fail
    refine (unitOf_any 3 n _ (HS.out.below (hb0.out _)).units (by simp) r0 (by omega)).mono ?_
    rintro e w1 ⟨rfl, hb⟩
    rw [HU.out.1, HU.out.2]
    have HB1 : Hid (Below w.heap.size w w1) := Lib.hid ((hb0.out (.cells #[.int .i64 3, .int .i64 n, .string t, .slice x L c] 29)).trans (hb.mono (hb0.out _).size))
    have hbx : Box4 w1 w.heap.size (.int .i64 3) (.int .i64 n) (.string t) (.slice x L c) := (box4_new w _ _ _ _ _).below hb
    have hlt := hbx.lt
    have HBX := Lib.hid hbx
    obtain ⟨c0, c1, c2, c3, _, _, _, _⟩ := hbx
    have hb2 : Below w1.heap.size w1 (w1.alloc (.cells #[.int .i64 3, .string nm, .int .i64 u] 51)).drew := ((Below.refl _ _).alloc (Nat.le_refl _) _).drew
    have HB2 : Hid (Below w.heap.size w (w1.alloc (.cells #[.int .i64 3, .string nm, .int .i64 u] 51)).drew ∧ Std (w1.alloc (.cells #[.int .i64 3, .string nm, .int .i64 u] 51)).drew) := Lib.hid ⟨HB1.out.trans (hb2.mono HB1.out.size), (HS.out.below HB1.out).below hb2⟩
    have m0 : (w1.alloc (.cells #[.int .i64 3, .string nm, .int .i64 u] 51)).cell? ⟨w1.heap.size, 0, none⟩ = some (.int .i64 3) := by simp
    have m1 : (w1.alloc (.cells #[.int .i64 3, .string nm, .int .i64 u] 51)).cell? ⟨w1.heap.size, 1, none⟩ = some (.string nm) := by simp
    have m2 : (w1.alloc (.cells #[.int .i64 3, .string nm, .int .i64 u] 51)).cell? ⟨w1.heap.size, 2, none⟩ = some (.int .i64 u) := by simp
    have n1 : (w1.alloc (.cells #[.int .i64 3, .string nm, .int .i64 u] 51)).cell? ⟨w.heap.size, 1, none⟩ = some (.int .i64 n) := (HBX.out.below ((Below.refl _ _).alloc (Nat.le_refl _) _)).c1
    have HM1 := Lib.hid m1
    have HQ := Lib.hid hq1
    clear hb hb2
    go_wp2
    first
      | (go_region_law ((go_simp; (with_reducible refine (itoa_any _ (by first | assumption | omega) (by first | assumption | omega) _ HB2.out.2.pow).mono ?_); rintro e w2 ⟨rfl, hb3⟩; have z1 : w2.cell? ⟨w1.heap.size, 1, none⟩ = some (.string nm) := (hb3.cell (p := ⟨w1.heap.size, 1, none⟩) (by simp)).trans HM1.out; dsimp only)))
      | fail
    all_goals
      have HB := Lib.hid (HB2.out.1.trans (hb3.mono HB2.out.1.size))
      clear hb3
      go_wp2
      go_ret
      exact ⟨ret_val (by rw [HV.out]; rfl), HB.out⟩
  by_cases h4 : k = 4
  · subst h4
    have hrange : 0 ≤ n ∧ n ≤ 1099511627776 := by
      have h := HR.out
      unfold rightV at h
      rw [if_neg (by simp), if_neg (by simp), if_pos (by simp)] at h
      simp only [Bool.and_eq_true, decide_eq_true_eq] at h
      exact h.1.1
    obtain ⟨r0, r1⟩ := hrange
    have hup := unitFor_pos 4 n
    obtain ⟨u, hu⟩ : ∃ u, (unitFor 4 n).1 = u := ⟨_, rfl⟩
    obtain ⟨nm, hnm⟩ : ∃ nm, mkB (unitFor 4 n).2 = nm := ⟨_, rfl⟩
    rw [hu] at hup
    obtain ⟨u0, u1⟩ := hup
    obtain ⟨q, hq⟩ : ∃ q, n / u = q := ⟨_, rfl⟩
    have hq0 : 0 ≤ q := by rw [← hq]; exact Int.ediv_nonneg r0 (by omega)
    have hq1 : q ≤ 9223372036854775807 := by rw [← hq]; have := Int.ediv_le_self u r0; omega
    have hqm : -9223372036854775808 ≤ q := by omega
    have hune : ¬ u = 0 := by omega
    have hwq : IntKind.i64.wrap q = q := IntWalk.i64_in _ (by omega)
    have ht1 : n.tdiv u = q := by rw [Int.tdiv_eq_ediv_of_nonneg r0, hq]
    have HV : Hid (mkB (printV ⟨4, n, t, xs⟩) = mkB (Lib.itoa q) ++ nm) := Lib.hid (by
      rw [← hnm, mkB_append, ← hq, ← hu]; rfl)
    have HU : Hid ((unitFor 4 n).1 = u ∧ mkB (unitFor 4 n).2 = nm) := Lib.hid ⟨hu, hnm⟩
    have HQ0 := Lib.hid hq
    have hs1 : (mkB (Lib.itoa q)).size ≤ 20 := by rw [mkB_size]; exact itoa_len q hqm hq1
    have hs2 : nm.size ≤ 1 := by rw [← hnm, mkB_size]; exact unit_len _ _
    have hcat : ¬ (9223372036854775807 < (mkB (Lib.itoa q)).size + nm.size) := by omega
    clear hu hnm hs1 hs2
    go_enter Tryd.func43, Tryd.ntmps43
    go_wp2_with fail
    refine (unitOf_any 4 n _ (HS.out.below (hb0.out _)).units (by simp) r0 (by omega)).mono ?_
    rintro e w1 ⟨rfl, hb⟩
    rw [HU.out.1, HU.out.2]
    have HB1 : Hid (Below w.heap.size w w1) := Lib.hid ((hb0.out (.cells #[.int .i64 4, .int .i64 n, .string t, .slice x L c] 29)).trans (hb.mono (hb0.out _).size))
    have hbx : Box4 w1 w.heap.size (.int .i64 4) (.int .i64 n) (.string t) (.slice x L c) := (box4_new w _ _ _ _ _).below hb
    have hlt := hbx.lt
    have HBX := Lib.hid hbx
    obtain ⟨c0, c1, c2, c3, _, _, _, _⟩ := hbx
    have hb2 : Below w1.heap.size w1 (w1.alloc (.cells #[.int .i64 4, .string nm, .int .i64 u] 51)).drew := ((Below.refl _ _).alloc (Nat.le_refl _) _).drew
    have HB2 : Hid (Below w.heap.size w (w1.alloc (.cells #[.int .i64 4, .string nm, .int .i64 u] 51)).drew ∧ Std (w1.alloc (.cells #[.int .i64 4, .string nm, .int .i64 u] 51)).drew) := Lib.hid ⟨HB1.out.trans (hb2.mono HB1.out.size), (HS.out.below HB1.out).below hb2⟩
    have m0 : (w1.alloc (.cells #[.int .i64 4, .string nm, .int .i64 u] 51)).cell? ⟨w1.heap.size, 0, none⟩ = some (.int .i64 4) := by simp
    have m1 : (w1.alloc (.cells #[.int .i64 4, .string nm, .int .i64 u] 51)).cell? ⟨w1.heap.size, 1, none⟩ = some (.string nm) := by simp
    have m2 : (w1.alloc (.cells #[.int .i64 4, .string nm, .int .i64 u] 51)).cell? ⟨w1.heap.size, 2, none⟩ = some (.int .i64 u) := by simp
    have n1 : (w1.alloc (.cells #[.int .i64 4, .string nm, .int .i64 u] 51)).cell? ⟨w.heap.size, 1, none⟩ = some (.int .i64 n) := (HBX.out.below ((Below.refl _ _).alloc (Nat.le_refl _) _)).c1
    have HM1 := Lib.hid m1
    have HQ := Lib.hid hq1
    clear hb hb2
    go_wp2
    first
      | (go_region_law ((go_simp; (with_reducible refine (itoa_any _ (by first | assumption | omega) (by first | assumption | omega) _ HB2.out.2.pow).mono ?_); rintro e w2 ⟨rfl, hb3⟩; have z1 : w2.cell? ⟨w1.heap.size, 1, none⟩ = some (.string nm) := (hb3.cell (p := ⟨w1.heap.size, 1, none⟩) (by simp)).trans HM1.out; dsimp only)))
      | fail
    all_goals
      have HB := Lib.hid (HB2.out.1.trans (hb3.mono HB2.out.1.size))
      clear hb3
      go_wp2
      go_ret
      exact ⟨ret_val (by rw [HV.out]; rfl), HB.out⟩
  by_cases h5 : k = 5
  · subst h5
    have HV : Hid (mkB (printV ⟨5, n, t, xs⟩) = t) := Lib.hid (by show mkB t.data.toList = t; exact mkB_self t)
    go_enter Tryd.func43, Tryd.ntmps43
    go_wp2
    go_ret
    exact ⟨ret_val (by rw [HV.out]; rfl), hb0.out _⟩
  have h6 : k = 6 := by
    refine Classical.byContradiction fun h6 => ?_
    have h := HR.out
    unfold rightV at h
    rw [if_neg h1, if_neg h2, if_neg (by simp only; omega), if_neg h5, if_neg h6] at h
    cases h
  subst h6
  have hwr : wordsRight xs = true := by
    have h := HR.out
    unfold rightV at h
    rw [if_neg (by simp), if_neg (by simp), if_neg (by simp), if_neg (by simp), if_pos rfl] at h
    simp only [Bool.and_eq_true] at h
    exact h.2
  have hw2 : xs.length ≤ 16 ∧ allWords (wl xs) = true ∧ (joinW xs).length ≤ 200 := by
    unfold wordsRight at hwr
    simp only [Bool.and_eq_true, decide_eq_true_eq] at hwr
    exact ⟨hwr.1.1, hwr.1.2, hwr.2⟩
  have HCALL : Hid (∀ o, Calls Tryd.prog 67 #[.slice x L c, .string ⟨#[44]⟩] (w.alloc o) fun e w' => e = .returned (.string (mkB (printV ⟨6, n, t, xs⟩))) ∧ Below (w.alloc o).heap.size (w.alloc o) w') := Lib.hid fun o => by
    have := join_any (w.alloc o) x c xs (HA.out.list.below (hb0.out o)) HA.out.room hw2.1 (by omega)
    rw [HL.out] at this; exact this
  clear hwr hw2 h1 h2 h3 h4 h5
  go_enter Tryd.func43, Tryd.ntmps43
  go_wp2_with fail
  refine (HCALL.out _).mono ?_
  rintro e w1 ⟨rfl, hb⟩
  have HB := Lib.hid ((hb0.out (.cells #[.int .i64 6, .int .i64 n, .string t, .slice x L c] 29)).trans (hb.mono (hb0.out _).size))
  clear hb HCALL
  go_wp2
  go_ret
  exact ⟨rfl, HB.out⟩

theorem right_cases {v : Val} (hr : rightV v = true) :
    (v.kind = 1 ∧ (0 ≤ v.int ∧ v.int ≤ 1) ∧ v.text.data.toList = [] ∧ v.words.length = 0) ∨
    (v.kind = 2 ∧ (-4611686018427387904 ≤ v.int ∧ v.int ≤ 4611686018427387904) ∧ v.text.data.toList = [] ∧ v.words.length = 0) ∨
    ((v.kind = 3 ∨ v.kind = 4) ∧ (0 ≤ v.int ∧ v.int ≤ mostV v.kind) ∧ v.text.data.toList = [] ∧ v.words.length = 0) ∨
    (v.kind = 5 ∧ v.int = 0 ∧ textV v.text.data.toList = 0 ∧ v.words.length = 0) ∨
    (v.kind = 6 ∧ v.int = 0 ∧ v.text.data.toList = [] ∧ v.words.length ≤ 16 ∧ allWords (wl v.words) = true ∧ (joinW v.words).length ≤ 200) := by
  unfold rightV at hr
  by_cases h1 : v.kind = 1
  · rw [if_pos h1] at hr; simp only [Bool.and_eq_true, decide_eq_true_eq] at hr; exact Or.inl ⟨h1, hr.1.1, hr.1.2, hr.2⟩
  rw [if_neg h1] at hr
  by_cases h2 : v.kind = 2
  · rw [if_pos h2] at hr; simp only [Bool.and_eq_true, decide_eq_true_eq] at hr; exact Or.inr (Or.inl ⟨h2, hr.1.1, hr.1.2, hr.2⟩)
  rw [if_neg h2] at hr
  by_cases h3 : v.kind = 3 ∨ v.kind = 4
  · rw [if_pos h3] at hr; simp only [Bool.and_eq_true, decide_eq_true_eq] at hr; exact Or.inr (Or.inr (Or.inl ⟨h3, hr.1.1, hr.1.2, hr.2⟩))
  rw [if_neg h3] at hr
  by_cases h5 : v.kind = 5
  · rw [if_pos h5] at hr; simp only [Bool.and_eq_true, decide_eq_true_eq] at hr; exact Or.inr (Or.inr (Or.inr (Or.inl ⟨h5, hr.1.1, hr.1.2, hr.2⟩)))
  rw [if_neg h5] at hr
  by_cases h6 : v.kind = 6
  · rw [if_pos h6] at hr; unfold wordsRight at hr; simp only [Bool.and_eq_true, decide_eq_true_eq] at hr; exact Or.inr (Or.inr (Or.inr (Or.inr ⟨h6, hr.1.1, hr.1.2, hr.2.1.1, hr.2.1.2, hr.2.2⟩)))
  rw [if_neg h6] at hr; cases hr
theorem textV_zero {s : List UInt8} (h : textV s = 0) : allText s = true ∧ s.length ≤ 200 := by
  unfold textV at h
  cases ha : allText s with
  | false => rw [ha] at h; simp at h
  | true =>
    refine ⟨rfl, ?_⟩
    rw [ha] at h
    rcases Nat.lt_or_ge 200 s.length with h2 | h2
    · rw [if_neg (by simp), if_pos h2] at h; cases h
    · exact h2
theorem print_len {v : Val} (hr : rightV v = true) : (printV v).length ≤ 200 := by
  rcases right_cases hr with ⟨h, _⟩ | ⟨h, hn, _⟩ | ⟨h, hn, _⟩ | ⟨h, _, ht, _⟩ | ⟨h, _, _, _, _, hj⟩
  · unfold printV; rw [if_pos h]; split <;> simp
  · unfold printV; rw [if_neg (by omega), if_pos h]
    have := itoa_len v.int (by omega) (by omega); omega
  · unfold printV; rw [if_neg (by omega), if_neg (by omega), if_pos h, List.length_append]
    have hm : mostV v.kind ≤ 4611686018427387904 := by unfold mostV; repeat' split
                                                       all_goals omega
    have hu := unitFor_pos v.kind v.int
    have hd := Int.ediv_le_self (unitFor v.kind v.int).1 hn.1
    have hd0 := Int.ediv_nonneg hn.1 (show 0 ≤ (unitFor v.kind v.int).1 by omega)
    have := itoa_len (v.int / (unitFor v.kind v.int).1) (by omega) (by omega)
    have := unit_len v.kind v.int
    omega
  · unfold printV; rw [if_neg (by omega), if_neg (by omega), if_neg (by omega), if_pos h]
    exact (textV_zero ht).2
  · unfold printV; rw [if_neg (by omega), if_neg (by omega), if_neg (by omega), if_neg (by omega)]
    exact hj

set_option maxHeartbeats 1600000 in
set_option maxRecDepth 100000 in
theorem print_any (w : World) (v : Val) (x : Option Addr) (c : Nat) (h : ArgOk w v x c) (hS : Std w) :
    Calls Tryd.prog 19 #[argV v x c] w fun e w' => e = .returned (.tuple #[.string (mkB (printR v).1), .int .i64 (printR v).2]) ∧ Below w.heap.size w w' := by
  have hb0 : Hid (∀ o, Below w.heap.size w (w.alloc o)) := Lib.hid fun o => (Below.refl _ _).alloc (Nat.le_refl _) o
  have HC := Lib.hid (fun o => right_any (w.alloc o) v x c (h.below (hb0.out o)) (hS.tab.below (hb0.out o)))
  have HC2 : Hid (rightV v = true → ∀ w1, Below w.heap.size w w1 → Calls Tryd.prog 43 #[argV v x c] w1 fun e w' => e = .returned (.string (mkB (printV v))) ∧ Below w1.heap.size w1 w') := Lib.hid fun hr w1 hb => printed_any w1 v x c (h.below hb) (hS.below hb) hr
  have hpl : Hid (rightV v = true → (mkB (printV v)).size ≤ 281474976710656) := Lib.hid fun hr => by rw [mkB_size]; have := print_len hr; omega
  clear h hS
  obtain ⟨J, hJ⟩ : ∃ J, mkB (printV v) = J := ⟨_, rfl⟩
  rw [hJ] at HC2 hpl
  cases hr : rightV v with
  | false =>
    have HV : Hid (printR v = ([], 1)) := Lib.hid (by unfold printR; rw [hr]; rfl)
    rw [hr] at HC
    clear HC2 hpl hJ hr
    obtain ⟨k, n, t, xs⟩ := v
    unfold argV at HC ⊢
    simp only at HC ⊢
    generalize xs.length = L at HC ⊢
    go_enter Tryd.func19, Tryd.ntmps19
    go_wp2_with fail
    refine (HC.out _).mono ?_
    rintro e w1 ⟨rfl, hb⟩
    have HB := Lib.hid ((hb0.out (.cells #[.int .i64 k, .int .i64 n, .string t, .slice x L c] 29)).trans (hb.mono (hb0.out _).size))
    clear hb HC
    go_wp2
    go_ret2
    exact ⟨ret_val (by rw [HV.out]; rfl), HB.out⟩
  | true =>
    have HV : Hid (printR v = (printV v, 0)) := Lib.hid (by unfold printR; rw [hr]; rfl)
    have HJ := Lib.hid hJ
    have HC3 := Lib.hid (HC2.out hr)
    have HPL := Lib.hid (hpl.out hr)
    rw [hr] at HC
    clear HC2 hpl hJ hr
    obtain ⟨k, n, t, xs⟩ := v
    unfold argV at HC HC3 ⊢
    simp only at HC HC3 ⊢
    generalize xs.length = L at HC HC3 ⊢
    go_enter Tryd.func19, Tryd.ntmps19
    go_wp2_with fail
    refine (HC.out _).mono ?_
    rintro e w1 ⟨rfl, hb⟩
    have HB := Lib.hid ((hb0.out (.cells #[.int .i64 k, .int .i64 n, .string t, .slice x L c] 29)).trans (hb.mono (hb0.out _).size))
    have HBX : Hid (Box4 w1 w.heap.size (.int .i64 k) (.int .i64 n) (.string t) (.slice x L c)) := Lib.hid ((box4_new w _ _ _ _ _).below hb)
    obtain ⟨c0, c1, c2, c3, _, _, _, _⟩ := HBX.out
    clear hb HC
    go_wp2_with fail
    refine (HC3.out _ HB.out).mono ?_
    rintro e w2 ⟨rfl, hb2⟩
    have HB2 := Lib.hid (HB.out.trans (hb2.mono HB.out.size))
    clear hb2 HC3
    go_wp2_with fail
    refine (clone_any _ _ HPL.out).mono ?_
    rintro e w3 ⟨rfl, hb3⟩
    have HB3 := Lib.hid (HB2.out.trans (hb3.mono HB2.out.size))
    clear hb3
    go_wp2
    go_ret2
    exact ⟨ret_val (by rw [HV.out, HJ.out]; rfl), HB3.out⟩
end Go.Proofs.YtolibkcdfhbdiaaDoor
