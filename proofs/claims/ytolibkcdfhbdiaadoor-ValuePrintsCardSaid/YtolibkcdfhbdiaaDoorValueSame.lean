/-
  The walks of 'value.Same' and 'value.Within'.
-/
import Derived.Test.YtolibkcdfhbdiaaDoorValueRight
namespace Go.Proofs.YtolibkcdfhbdiaaDoor
open Go.ChangeShapes Go.WideShapes Go.ChangeAt Go.RowKit

theorem equal_any (w : World) (x y : Option Addr) (c d : Nat) (xs ys : List ByteArray) (hx : Txts w x xs) (hy : Txts w y ys) (hl : xs.length ≤ 9223372036854775807) (hm : ys.length ≤ 9223372036854775807) :
    Calls Tryd.prog 44 #[.slice x xs.length c, .slice y ys.length d] w fun e w' => e = .returned (.bool (decide (xs = ys))) ∧ Below w.heap.size w w' := by
  by_cases hn : xs.length = ys.length
  · rcases Nat.eq_zero_or_pos xs.length with h0 | h0
    · have e1 := List.eq_nil_of_length_eq_zero h0
      have e2 : ys = [] := List.eq_nil_of_length_eq_zero (by omega)
      subst e1 e2
      exact (Any.slices_Equal_string_empty Tryd.lays193 x y c 0 d w (by decide)).mono fun _ _ ⟨he, hw⟩ => ⟨by rw [he]; rfl, hw ▸ Below.refl _ _⟩
    · obtain ⟨b1, o1, rfl, _, h1⟩ := hx.one h0
      obtain ⟨b2, o2, rfl, _, h2⟩ := hy.one (by omega)
      refine (Any.slices_Equal_string Tryd.lays193 b1 o1 xs.length c b2 o2 ys.length d xs ys w (Nat.le_refl _) (Nat.le_refl _) hl hm (fun j hj => ?_) (fun j hj => ?_)).mono fun _ _ ⟨he, q, hw⟩ => ⟨by rw [he, List.take_length, List.take_length], hw ▸ below_drewN w q⟩
      · rw [h1 j hj]; simp [List.getD, hj]
      · rw [h2 j hj]; simp [List.getD, hj]
  · exact (Any.slices_Equal_string_lens Tryd.lays193 x y xs.length c ys.length d w hn).mono fun _ _ ⟨he, hw⟩ => ⟨by rw [he, decide_eq_false (fun h => hn (by rw [h]))], hw ▸ Below.refl _ _⟩

set_option maxHeartbeats 1600000 in
set_option maxRecDepth 100000 in
theorem same_any (w : World) (v u : Val) (x y : Option Addr) (c d : Nat) (h : ArgOk w v x c) (g : ArgOk w u y d) :
    Calls Tryd.prog 20 #[argV v x c, argV u y d] w fun e w' => e = .returned (.bool (sameV v u)) ∧ Below w.heap.size w w' := by
  have hb0 : Hid (∀ o p, Below w.heap.size w ((w.alloc o).alloc p)) := Lib.hid fun o p => ((Below.refl _ _).alloc (Nat.le_refl _) o).alloc (by simp) p
  have HH := Lib.hid h
  have HG := Lib.hid g
  have HS : Hid (sameV v u = (decide (v.kind = u.kind) && decide (v.int = u.int) && decide (v.text = u.text) && decide (v.words = u.words))) := Lib.hid rfl
  clear h g
  obtain ⟨k1, n1, t1, xs⟩ := v
  obtain ⟨k2, n2, t2, ys⟩ := u
  simp only at HS
  obtain ⟨L, hL⟩ : ∃ L, xs.length = L := ⟨_, rfl⟩
  obtain ⟨M, hM⟩ : ∃ M, ys.length = M := ⟨_, rfl⟩
  have HL := Lib.hid hL
  have HM := Lib.hid hM
  unfold argV
  simp only
  rw [hL, hM]
  clear hL hM
  by_cases hk : k1 = k2
  · subst hk
    by_cases hn : n1 = n2
    · subst hn
      by_cases ht : t1 = t2
      · subst ht
        have HV : Hid (sameV ⟨k1, n1, t1, xs⟩ ⟨k1, n1, t1, ys⟩ = decide (xs = ys)) := Lib.hid (by rw [HS.out]; simp)
        obtain ⟨B, hB⟩ : ∃ B, decide (xs = ys) = B := ⟨_, rfl⟩
        have HBV : Hid (sameV ⟨k1, n1, t1, xs⟩ ⟨k1, n1, t1, ys⟩ = B) := Lib.hid (by rw [HV.out, hB])
        have HCALL : Hid (∀ o p, Calls Tryd.prog 44 #[.slice x L c, .slice y M d] ((w.alloc o).alloc p) fun e w' => e = .returned (.bool B) ∧ Below ((w.alloc o).alloc p).heap.size ((w.alloc o).alloc p) w') := Lib.hid fun o p => by
          have := equal_any ((w.alloc o).alloc p) x y c d xs ys (HH.out.list.below (hb0.out o p)) (HG.out.list.below (hb0.out o p)) (by have := HH.out.len; simp only at this; omega) (by have := HG.out.len; simp only at this; omega)
          rw [HL.out, HM.out, hB] at this
          exact this
        clear HS HV hB
        go_enter Tryd.func20, Tryd.ntmps20
        go_wp2_with fail
        refine (HCALL.out _ _).mono ?_
        rintro e w' ⟨rfl, hb⟩
        have HB := Lib.hid ((hb0.out _ _).trans (hb.mono (hb0.out (.cells #[.int .i64 k1, .int .i64 n1, .string t1, .slice x L c] 29) (.cells #[.int .i64 k1, .int .i64 n1, .string t1, .slice y M d] 29)).size))
        clear hb HCALL
        go_wp2
        go_ret
        exact ⟨ret_bool HBV.out, HB.out⟩
      · have e1 : (t1.toList == t2.toList) = false := beq_eq_false_iff_ne.2 (fun h => ht (toList_inj h))
        have HV : Hid (sameV ⟨k1, n1, t1, xs⟩ ⟨k1, n1, t2, ys⟩ = false) := Lib.hid (by rw [HS.out, decide_eq_false ht]; simp)
        clear ht HS
        go_enter Tryd.func20, Tryd.ntmps20
        go_wp2
        go_ret
        exact ⟨ret_bool HV.out, hb0.out _ _⟩
    · have e1 : (n1 == n2) = false := beq_eq_false_iff_ne.2 hn
      have HV : Hid (sameV ⟨k1, n1, t1, xs⟩ ⟨k1, n2, t2, ys⟩ = false) := Lib.hid (by rw [HS.out, decide_eq_false hn]; simp)
      clear hn HS
      go_enter Tryd.func20, Tryd.ntmps20
      go_wp2
      go_ret
      exact ⟨ret_bool HV.out, hb0.out _ _⟩
  · have e1 : (k1 == k2) = false := beq_eq_false_iff_ne.2 hk
    have HV : Hid (sameV ⟨k1, n1, t1, xs⟩ ⟨k2, n2, t2, ys⟩ = false) := Lib.hid (by rw [HS.out, decide_eq_false hk]; simp)
    clear hk HS
    go_enter Tryd.func20, Tryd.ntmps20
    go_wp2
    go_ret
    exact ⟨ret_bool HV.out, hb0.out _ _⟩

set_option maxHeartbeats 3200000 in
set_option maxRecDepth 100000 in
theorem within_any (w : World) (v : Val) (a b : Int) (x : Option Addr) (c : Nat) (h : ArgOk w v x c) (hT : Tab w) :
    Calls Tryd.prog 24 #[argV v x c, .int .i64 a, .int .i64 b] w fun e w' => e = .returned (.bool (withinV v a b)) ∧ Below w.heap.size w w' := by
  have hb0 : Hid (∀ o, Below w.heap.size w (w.alloc o)) := Lib.hid fun o => (Below.refl _ _).alloc (Nat.le_refl _) o
  have HW : Hid (withinV v a b = (rightV v && (if v.kind = 2 ∨ v.kind = 3 ∨ v.kind = 4 then decide (a ≤ v.int ∧ v.int ≤ b) else if v.kind = 6 then decide (a ≤ v.words.length ∧ (v.words.length : Int) ≤ b) else true))) := Lib.hid rfl
  obtain ⟨R, hR⟩ : ∃ R, rightV v = R := ⟨_, rfl⟩
  have HCALL : Hid (∀ o, Calls Tryd.prog 18 #[argV v x c] (w.alloc o) fun e w' => e = .returned (.bool R) ∧ Below (w.alloc o).heap.size (w.alloc o) w') := Lib.hid fun o => by
    have := right_any (w.alloc o) v x c (h.below (hb0.out o)) (hT.below (hb0.out o))
    rw [hR] at this; exact this
  have HR := Lib.hid hR
  have hlen := h.len
  clear h hT hR
  obtain ⟨k, n, t, xs⟩ := v
  simp only at HW hlen
  obtain ⟨L, hL⟩ : ∃ L, xs.length = L := ⟨_, rfl⟩
  rw [HR.out, hL] at HW
  unfold argV at HCALL ⊢
  simp only at HCALL ⊢
  rw [hL] at HCALL hlen ⊢
  clear hL HR
  cases R with
  | false =>
    have HV : Hid (withinV ⟨k, n, t, xs⟩ a b = false) := Lib.hid (by rw [HW.out]; rfl)
    clear HW
    go_enter Tryd.func24, Tryd.ntmps24
    go_wp2_with fail
    refine (HCALL.out _).mono ?_
    rintro e w1 ⟨rfl, hb⟩
    have HB := Lib.hid ((hb0.out (.cells #[.int .i64 k, .int .i64 n, .string t, .slice x L c] 29)).trans (hb.mono (hb0.out _).size))
    have HBX : Hid (Box4 w1 w.heap.size (.int .i64 k) (.int .i64 n) (.string t) (.slice x L c)) := Lib.hid ((box4_new w _ _ _ _ _).below hb)
    obtain ⟨c0, c1, c2, c3, _, _, _, _⟩ := HBX.out
    clear hb HCALL
    go_wp2
    go_ret
    exact ⟨ret_bool HV.out, HB.out⟩
  | true =>
    by_cases h2 : k = 2
    · subst h2
      have HX : Hid (withinV ⟨2, n, t, xs⟩ a b = decide (a ≤ n ∧ n ≤ b)) := Lib.hid (by rw [HW.out]; rw [if_pos (by simp)]; rfl)
      by_cases r1 : a ≤ n
      · have d1 : decide (a ≤ n) = true := decide_eq_true r1
        by_cases r2 : n ≤ b
        · have d2 : decide (n ≤ b) = true := decide_eq_true r2
          have HV : Hid (withinV ⟨2, n, t, xs⟩ a b = true) := Lib.hid (by rw [HX.out]; exact decide_eq_true ⟨r1, r2⟩)
          clear r1 r2 HW
          go_enter Tryd.func24, Tryd.ntmps24
          go_wp2_with fail
          refine (HCALL.out _).mono ?_
          rintro e w1 ⟨rfl, hb⟩
          have HB := Lib.hid ((hb0.out (.cells #[.int .i64 2, .int .i64 n, .string t, .slice x L c] 29)).trans (hb.mono (hb0.out _).size))
          have HBX : Hid (Box4 w1 w.heap.size (.int .i64 2) (.int .i64 n) (.string t) (.slice x L c)) := Lib.hid ((box4_new w _ _ _ _ _).below hb)
          obtain ⟨c0, c1, c2, c3, _, _, _, _⟩ := HBX.out
          clear hb HCALL
          go_wp2
          go_ret
          exact ⟨ret_bool HV.out, HB.out⟩
        · have d2 : decide (n ≤ b) = false := decide_eq_false r2
          have HV : Hid (withinV ⟨2, n, t, xs⟩ a b = false) := Lib.hid (by rw [HX.out]; exact decide_eq_false (fun h => r2 h.2))
          clear r1 r2 HW
          go_enter Tryd.func24, Tryd.ntmps24
          go_wp2_with fail
          refine (HCALL.out _).mono ?_
          rintro e w1 ⟨rfl, hb⟩
          have HB := Lib.hid ((hb0.out (.cells #[.int .i64 2, .int .i64 n, .string t, .slice x L c] 29)).trans (hb.mono (hb0.out _).size))
          have HBX : Hid (Box4 w1 w.heap.size (.int .i64 2) (.int .i64 n) (.string t) (.slice x L c)) := Lib.hid ((box4_new w _ _ _ _ _).below hb)
          obtain ⟨c0, c1, c2, c3, _, _, _, _⟩ := HBX.out
          clear hb HCALL
          go_wp2
          go_ret
          exact ⟨ret_bool HV.out, HB.out⟩
      · have d1 : decide (a ≤ n) = false := decide_eq_false r1
        have HV : Hid (withinV ⟨2, n, t, xs⟩ a b = false) := Lib.hid (by rw [HX.out]; exact decide_eq_false (fun h => r1 h.1))
        clear r1 HW
        go_enter Tryd.func24, Tryd.ntmps24
        go_wp2_with fail
        refine (HCALL.out _).mono ?_
        rintro e w1 ⟨rfl, hb⟩
        have HB := Lib.hid ((hb0.out (.cells #[.int .i64 2, .int .i64 n, .string t, .slice x L c] 29)).trans (hb.mono (hb0.out _).size))
        have HBX : Hid (Box4 w1 w.heap.size (.int .i64 2) (.int .i64 n) (.string t) (.slice x L c)) := Lib.hid ((box4_new w _ _ _ _ _).below hb)
        obtain ⟨c0, c1, c2, c3, _, _, _, _⟩ := HBX.out
        clear hb HCALL
        go_wp2
        go_ret
        exact ⟨ret_bool HV.out, HB.out⟩
    by_cases h3 : k = 3
    · subst h3
      have HX : Hid (withinV ⟨3, n, t, xs⟩ a b = decide (a ≤ n ∧ n ≤ b)) := Lib.hid (by rw [HW.out]; rw [if_pos (by simp)]; rfl)
      by_cases r1 : a ≤ n
      · have d1 : decide (a ≤ n) = true := decide_eq_true r1
        by_cases r2 : n ≤ b
        · have d2 : decide (n ≤ b) = true := decide_eq_true r2
          have HV : Hid (withinV ⟨3, n, t, xs⟩ a b = true) := Lib.hid (by rw [HX.out]; exact decide_eq_true ⟨r1, r2⟩)
          clear r1 r2 HW
          go_enter Tryd.func24, Tryd.ntmps24
          go_wp2_with fail
          refine (HCALL.out _).mono ?_
          rintro e w1 ⟨rfl, hb⟩
          have HB := Lib.hid ((hb0.out (.cells #[.int .i64 3, .int .i64 n, .string t, .slice x L c] 29)).trans (hb.mono (hb0.out _).size))
          have HBX : Hid (Box4 w1 w.heap.size (.int .i64 3) (.int .i64 n) (.string t) (.slice x L c)) := Lib.hid ((box4_new w _ _ _ _ _).below hb)
          obtain ⟨c0, c1, c2, c3, _, _, _, _⟩ := HBX.out
          clear hb HCALL
          go_wp2
          go_ret
          exact ⟨ret_bool HV.out, HB.out⟩
        · have d2 : decide (n ≤ b) = false := decide_eq_false r2
          have HV : Hid (withinV ⟨3, n, t, xs⟩ a b = false) := Lib.hid (by rw [HX.out]; exact decide_eq_false (fun h => r2 h.2))
          clear r1 r2 HW
          go_enter Tryd.func24, Tryd.ntmps24
          go_wp2_with fail
          refine (HCALL.out _).mono ?_
          rintro e w1 ⟨rfl, hb⟩
          have HB := Lib.hid ((hb0.out (.cells #[.int .i64 3, .int .i64 n, .string t, .slice x L c] 29)).trans (hb.mono (hb0.out _).size))
          have HBX : Hid (Box4 w1 w.heap.size (.int .i64 3) (.int .i64 n) (.string t) (.slice x L c)) := Lib.hid ((box4_new w _ _ _ _ _).below hb)
          obtain ⟨c0, c1, c2, c3, _, _, _, _⟩ := HBX.out
          clear hb HCALL
          go_wp2
          go_ret
          exact ⟨ret_bool HV.out, HB.out⟩
      · have d1 : decide (a ≤ n) = false := decide_eq_false r1
        have HV : Hid (withinV ⟨3, n, t, xs⟩ a b = false) := Lib.hid (by rw [HX.out]; exact decide_eq_false (fun h => r1 h.1))
        clear r1 HW
        go_enter Tryd.func24, Tryd.ntmps24
        go_wp2_with fail
        refine (HCALL.out _).mono ?_
        rintro e w1 ⟨rfl, hb⟩
        have HB := Lib.hid ((hb0.out (.cells #[.int .i64 3, .int .i64 n, .string t, .slice x L c] 29)).trans (hb.mono (hb0.out _).size))
        have HBX : Hid (Box4 w1 w.heap.size (.int .i64 3) (.int .i64 n) (.string t) (.slice x L c)) := Lib.hid ((box4_new w _ _ _ _ _).below hb)
        obtain ⟨c0, c1, c2, c3, _, _, _, _⟩ := HBX.out
        clear hb HCALL
        go_wp2
        go_ret
        exact ⟨ret_bool HV.out, HB.out⟩
    by_cases h4 : k = 4
    · subst h4
      have HX : Hid (withinV ⟨4, n, t, xs⟩ a b = decide (a ≤ n ∧ n ≤ b)) := Lib.hid (by rw [HW.out]; rw [if_pos (by simp)]; rfl)
      by_cases r1 : a ≤ n
      · have d1 : decide (a ≤ n) = true := decide_eq_true r1
        by_cases r2 : n ≤ b
        · have d2 : decide (n ≤ b) = true := decide_eq_true r2
          have HV : Hid (withinV ⟨4, n, t, xs⟩ a b = true) := Lib.hid (by rw [HX.out]; exact decide_eq_true ⟨r1, r2⟩)
          clear r1 r2 HW
          go_enter Tryd.func24, Tryd.ntmps24
          go_wp2_with fail
          refine (HCALL.out _).mono ?_
          rintro e w1 ⟨rfl, hb⟩
          have HB := Lib.hid ((hb0.out (.cells #[.int .i64 4, .int .i64 n, .string t, .slice x L c] 29)).trans (hb.mono (hb0.out _).size))
          have HBX : Hid (Box4 w1 w.heap.size (.int .i64 4) (.int .i64 n) (.string t) (.slice x L c)) := Lib.hid ((box4_new w _ _ _ _ _).below hb)
          obtain ⟨c0, c1, c2, c3, _, _, _, _⟩ := HBX.out
          clear hb HCALL
          go_wp2
          go_ret
          exact ⟨ret_bool HV.out, HB.out⟩
        · have d2 : decide (n ≤ b) = false := decide_eq_false r2
          have HV : Hid (withinV ⟨4, n, t, xs⟩ a b = false) := Lib.hid (by rw [HX.out]; exact decide_eq_false (fun h => r2 h.2))
          clear r1 r2 HW
          go_enter Tryd.func24, Tryd.ntmps24
          go_wp2_with fail
          refine (HCALL.out _).mono ?_
          rintro e w1 ⟨rfl, hb⟩
          have HB := Lib.hid ((hb0.out (.cells #[.int .i64 4, .int .i64 n, .string t, .slice x L c] 29)).trans (hb.mono (hb0.out _).size))
          have HBX : Hid (Box4 w1 w.heap.size (.int .i64 4) (.int .i64 n) (.string t) (.slice x L c)) := Lib.hid ((box4_new w _ _ _ _ _).below hb)
          obtain ⟨c0, c1, c2, c3, _, _, _, _⟩ := HBX.out
          clear hb HCALL
          go_wp2
          go_ret
          exact ⟨ret_bool HV.out, HB.out⟩
      · have d1 : decide (a ≤ n) = false := decide_eq_false r1
        have HV : Hid (withinV ⟨4, n, t, xs⟩ a b = false) := Lib.hid (by rw [HX.out]; exact decide_eq_false (fun h => r1 h.1))
        clear r1 HW
        go_enter Tryd.func24, Tryd.ntmps24
        go_wp2_with fail
        refine (HCALL.out _).mono ?_
        rintro e w1 ⟨rfl, hb⟩
        have HB := Lib.hid ((hb0.out (.cells #[.int .i64 4, .int .i64 n, .string t, .slice x L c] 29)).trans (hb.mono (hb0.out _).size))
        have HBX : Hid (Box4 w1 w.heap.size (.int .i64 4) (.int .i64 n) (.string t) (.slice x L c)) := Lib.hid ((box4_new w _ _ _ _ _).below hb)
        obtain ⟨c0, c1, c2, c3, _, _, _, _⟩ := HBX.out
        clear hb HCALL
        go_wp2
        go_ret
        exact ⟨ret_bool HV.out, HB.out⟩
    by_cases h6 : k = 6
    · subst h6
      have HX : Hid (withinV ⟨6, n, t, xs⟩ a b = decide (a ≤ (L : Int) ∧ (L : Int) ≤ b)) := Lib.hid (by rw [HW.out]; rw [if_neg (by simp), if_pos rfl]; rfl)
      by_cases r1 : a ≤ (L : Int)
      · have d1 : decide (a ≤ (L : Int)) = true := decide_eq_true r1
        by_cases r2 : (L : Int) ≤ b
        · have d2 : decide ((L : Int) ≤ b) = true := decide_eq_true r2
          have HV : Hid (withinV ⟨6, n, t, xs⟩ a b = true) := Lib.hid (by rw [HX.out]; exact decide_eq_true ⟨r1, r2⟩)
          clear r1 r2 HW
          go_enter Tryd.func24, Tryd.ntmps24
          go_wp2_with fail
          refine (HCALL.out _).mono ?_
          rintro e w1 ⟨rfl, hb⟩
          have HB := Lib.hid ((hb0.out (.cells #[.int .i64 6, .int .i64 n, .string t, .slice x L c] 29)).trans (hb.mono (hb0.out _).size))
          have HBX : Hid (Box4 w1 w.heap.size (.int .i64 6) (.int .i64 n) (.string t) (.slice x L c)) := Lib.hid ((box4_new w _ _ _ _ _).below hb)
          obtain ⟨c0, c1, c2, c3, _, _, _, _⟩ := HBX.out
          clear hb HCALL
          go_wp2
          go_ret
          exact ⟨ret_bool HV.out, HB.out⟩
        · have d2 : decide ((L : Int) ≤ b) = false := decide_eq_false r2
          have HV : Hid (withinV ⟨6, n, t, xs⟩ a b = false) := Lib.hid (by rw [HX.out]; exact decide_eq_false (fun h => r2 h.2))
          clear r1 r2 HW
          go_enter Tryd.func24, Tryd.ntmps24
          go_wp2_with fail
          refine (HCALL.out _).mono ?_
          rintro e w1 ⟨rfl, hb⟩
          have HB := Lib.hid ((hb0.out (.cells #[.int .i64 6, .int .i64 n, .string t, .slice x L c] 29)).trans (hb.mono (hb0.out _).size))
          have HBX : Hid (Box4 w1 w.heap.size (.int .i64 6) (.int .i64 n) (.string t) (.slice x L c)) := Lib.hid ((box4_new w _ _ _ _ _).below hb)
          obtain ⟨c0, c1, c2, c3, _, _, _, _⟩ := HBX.out
          clear hb HCALL
          go_wp2
          go_ret
          exact ⟨ret_bool HV.out, HB.out⟩
      · have d1 : decide (a ≤ (L : Int)) = false := decide_eq_false r1
        have HV : Hid (withinV ⟨6, n, t, xs⟩ a b = false) := Lib.hid (by rw [HX.out]; exact decide_eq_false (fun h => r1 h.1))
        clear r1 HW
        go_enter Tryd.func24, Tryd.ntmps24
        go_wp2_with fail
        refine (HCALL.out _).mono ?_
        rintro e w1 ⟨rfl, hb⟩
        have HB := Lib.hid ((hb0.out (.cells #[.int .i64 6, .int .i64 n, .string t, .slice x L c] 29)).trans (hb.mono (hb0.out _).size))
        have HBX : Hid (Box4 w1 w.heap.size (.int .i64 6) (.int .i64 n) (.string t) (.slice x L c)) := Lib.hid ((box4_new w _ _ _ _ _).below hb)
        obtain ⟨c0, c1, c2, c3, _, _, _, _⟩ := HBX.out
        clear hb HCALL
        go_wp2
        go_ret
        exact ⟨ret_bool HV.out, HB.out⟩
    have HV : Hid (withinV ⟨k, n, t, xs⟩ a b = true) := Lib.hid (by rw [HW.out, if_neg (by omega), if_neg h6]; rfl)
    have e2 : (k == 2) = false := beq_eq_false_iff_ne.2 h2
    have e3 : (k == 3) = false := beq_eq_false_iff_ne.2 h3
    have e4 : (k == 4) = false := beq_eq_false_iff_ne.2 h4
    have e6 : (k == 6) = false := beq_eq_false_iff_ne.2 h6
    clear h2 h3 h4 h6 HW
    go_enter Tryd.func24, Tryd.ntmps24
    go_wp2_with fail
    refine (HCALL.out _).mono ?_
    rintro e w1 ⟨rfl, hb⟩
    have HB := Lib.hid ((hb0.out (.cells #[.int .i64 k, .int .i64 n, .string t, .slice x L c] 29)).trans (hb.mono (hb0.out _).size))
    have HBX : Hid (Box4 w1 w.heap.size (.int .i64 k) (.int .i64 n) (.string t) (.slice x L c)) := Lib.hid ((box4_new w _ _ _ _ _).below hb)
    obtain ⟨c0, c1, c2, c3, _, _, _, _⟩ := HBX.out
    clear hb HCALL
    go_wp2
    go_ret
    exact ⟨ret_bool HV.out, HB.out⟩
end Go.Proofs.YtolibkcdfhbdiaaDoor
