/-
  The walk of the document's own 'Print'.
-/
import Derived.Test.YtolibkcdfhbdiaaDoorValueRefGreat
import Derived.Test.YtolibkcdfhbdiaaDoorValueRefRight2
namespace Go.Proofs.YtolibkcdfhbdiaaDoor
open Go.ChangeShapes Go.WideShapes Go.ChangeAt Go.RowKit

theorem joinTail_snoc (r : List (List UInt8)) (x : List UInt8) : Lib.joinTail [44] (r ++ [x]) = Lib.joinTail [44] r ++ ([44] ++ x) := by
  unfold Lib.joinTail
  rw [List.map_append, List.flatten_append]; simp
theorem join_first (xs : List ByteArray) (h : 0 < xs.length) : mkB (joinW (xs.take 1)) = xs[0] := by
  cases xs with
  | nil => simp at h
  | cons a r =>
    show mkB (joinW [a]) = a
    unfold joinW
    rw [show wl [a] = a.data.toList :: wl [] from rfl, Lib.join_cons, show Lib.joinTail [44] (wl []) = [] from rfl, List.append_nil, mkB_self]
theorem join_next (xs : List ByteArray) (k : Nat) (h : k < xs.length) (hk : 0 < k) : mkB (joinW (xs.take (k + 1))) = (mkB (joinW (xs.take k)) ++ mkB [44]) ++ xs[k] := by
  cases xs with
  | nil => simp at h
  | cons a r =>
    obtain ⟨k, rfl⟩ : ∃ q, k = q + 1 := ⟨k - 1, by omega⟩
    have hk' : k < r.length := by simpa using h
    have e1 : wl ((a :: r).take (k + 1 + 1)) = a.data.toList :: (wl (r.take k) ++ [r[k].data.toList]) := by
      rw [List.take_succ_cons, List.take_succ_eq_append_getElem hk']
      unfold wl
      rw [List.map_cons, List.map_append]; rfl
    have e2 : wl ((a :: r).take (k + 1)) = a.data.toList :: wl (r.take k) := by rw [List.take_succ_cons]; rfl
    unfold joinW
    rw [e1, e2, Lib.join_cons, Lib.join_cons, joinTail_snoc, mkB_append]
    have : (a :: r)[k + 1] = mkB r[k].data.toList := by rw [mkB_self]; rfl
    rw [this, mkB_append]
    congr 1
    simp
theorem print_no {v : Val} (h : rightV v = false) : printR v = ([], 1) := by unfold printR; rw [h]; rfl
theorem print_yes {v : Val} (h : rightV v = true) : printR v = (printV v, 0) := by unfold printR; rw [h]; rfl

/-- What stands at the head of a round of 'Print'. -/
def JoinAt (xs : List ByteArray) (k : Nat) (J : ByteArray) : Prop := J = mkB (joinW (xs.take k)) ∧ J.size ≤ 33 * k

set_option maxHeartbeats 1600000 in
set_option maxRecDepth 100000 in
theorem refPrint_any (w : World) (v : Val) (x : Option Addr) (c : Nat) (h : ArgOk w v x c) (hl : v.words.length ≤ 2147483647) :
    Calls Tryd.prog 22 #[argV v x c] w fun e w' => e = .returned (.tuple #[.string (mkB (printR v).1), .int .i64 (printR v).2]) ∧ Below w.heap.size w w' := by
  have hb0 : Hid (∀ p, Box4 (w.alloc (.cells #[.int .i64 v.kind, .int .i64 v.int, .string v.text, .slice x v.words.length c] p)) w.heap.size (.int .i64 v.kind) (.int .i64 v.int) (.string v.text) (.slice x v.words.length c) ∧ Below w.heap.size w (w.alloc (.cells #[.int .i64 v.kind, .int .i64 v.int, .string v.text, .slice x v.words.length c] p))) := Lib.hid fun p => ⟨box4_new w _ _ _ _ p, (Below.refl _ _).alloc (Nat.le_refl _) _⟩
  have HRC : Hid (∀ p, Calls Tryd.prog 23 #[.agg #[.int .i64 v.kind, .int .i64 v.int, .string v.text, .slice x v.words.length c]] (w.alloc (.cells #[.int .i64 v.kind, .int .i64 v.int, .string v.text, .slice x v.words.length c] p)) fun e w' => e = .returned (.bool (rightV v)) ∧ Below (w.alloc (.cells #[.int .i64 v.kind, .int .i64 v.int, .string v.text, .slice x v.words.length c] p)).heap.size (w.alloc (.cells #[.int .i64 v.kind, .int .i64 v.int, .string v.text, .slice x v.words.length c] p)) w') := Lib.hid fun p => refRight_any _ v x c (h.below ((hb0.out p).2)) hl
  have HTX : Hid (∀ w1, Below w.heap.size w w1 → Txts w1 x v.words) := Lib.hid fun w1 hb => h.list.below hb
  have HSZ : Hid (∀ k (h : k < v.words.length), v.words[k].size ≤ maxLen) := Lib.hid h.sizes
  clear h hl
  cases hT : rightV v with
  | false =>
    have HV := Lib.hid (print_no hT)
    rw [hT] at HRC
    clear hT
    unfold argV
    obtain ⟨k, n, t, xs⟩ := v
    simp only at hb0 HRC HV ⊢
    rw [HV.out]
    go_enter Tryd.func22, Tryd.ntmps22
    go_wp2_with fail
    refine (HRC.out _).mono ?_
    rintro e w1 ⟨rfl, hb⟩
    have HB := Lib.hid ((hb0.out 29).2.trans (hb.mono (hb0.out 29).2.size))
    clear hb
    go_wp2
    go_ret2
    exact ⟨rfl, HB.out⟩
  | true =>
    have hcases := right_cases hT
    rw [print_yes hT]
    rw [hT] at HRC
    clear hT
    unfold argV
    obtain ⟨k, n, t, xs⟩ := v
    simp only at hb0 HRC HTX HSZ hcases ⊢
    obtain ⟨N, hN⟩ : ∃ N, xs.length = N := ⟨_, rfl⟩
    have HN := Lib.hid hN
    rw [hN] at hb0 HRC hcases ⊢
    clear hN
    rcases hcases with ⟨rfl, hi, hx1, hx2⟩ | ⟨rfl, hi, hx1, hx2⟩ | ⟨hk, hi, hx1, hx2⟩ | ⟨rfl, hi, hx1, hx2⟩ | ⟨rfl, hi, hx1, hN16, ha, hx2⟩
    all_goals clear hx1 hx2
    · by_cases h1 : n = 1
      · have HV : Hid (printV ⟨1, n, t, xs⟩ = [116, 114, 117, 101]) := Lib.hid (by unfold printV; rw [if_pos rfl, if_pos h1])
        have d1 : (n == 1) = true := beq_iff_eq.2 h1
        clear h1 hi
        go_enter Tryd.func22, Tryd.ntmps22
        go_wp2_with fail
        refine (HRC.out _).mono ?_
        rintro e w1 ⟨rfl, hb⟩
        obtain ⟨c0, c1, c2, c3, _, _, _, _⟩ := (hb0.out 29).1.below hb
        have HB := Lib.hid ((hb0.out 29).2.trans (hb.mono (hb0.out 29).2.size))
        clear hb
        go_wp2
        go_ret2
        exact ⟨ret_val (by rw [HV.out]; rfl), HB.out⟩
      · have HV : Hid (printV ⟨1, n, t, xs⟩ = [102, 97, 108, 115, 101]) := Lib.hid (by unfold printV; rw [if_pos rfl, if_neg h1])
        have d1 : (n == 1) = false := beq_eq_false_iff_ne.2 h1
        clear h1 hi
        go_enter Tryd.func22, Tryd.ntmps22
        go_wp2_with fail
        refine (HRC.out _).mono ?_
        rintro e w1 ⟨rfl, hb⟩
        obtain ⟨c0, c1, c2, c3, _, _, _, _⟩ := (hb0.out 29).1.below hb
        have HB := Lib.hid ((hb0.out 29).2.trans (hb.mono (hb0.out 29).2.size))
        clear hb
        go_wp2
        go_ret2
        exact ⟨ret_val (by rw [HV.out]; rfl), HB.out⟩
    · have HV : Hid (mkB (printV ⟨2, n, t, xs⟩) = mkB (Lib.itoa n)) := Lib.hid rfl
      have HD := Lib.hid (refDigits_any n hi.1 hi.2)
      generalize mkB (Lib.itoa n) = P at HV HD
      clear hi
      go_enter Tryd.func22, Tryd.ntmps22
      go_wp2_with fail
      refine (HRC.out _).mono ?_
      rintro e w1 ⟨rfl, hb⟩
      obtain ⟨c0, c1, c2, c3, _, _, _, _⟩ := (hb0.out 29).1.below hb
      have HB := Lib.hid ((hb0.out 29).2.trans (hb.mono (hb0.out 29).2.size))
      clear hb
      go_wp2_with fail
      refine (HD.out _).mono ?_
      rintro e w2 ⟨rfl, hb2⟩
      have HB2 := Lib.hid (HB.out.trans (hb2.mono HB.out.size))
      clear hb2
      go_wp2
      go_ret2
      exact ⟨ret_val (by rw [HV.out]; rfl), HB2.out⟩
    · rcases hk with rfl | rfl
      · have HV : Hid (mkB (printV ⟨3, n, t, xs⟩) = mkB (Lib.itoa (n / (unitFor 3 n).1) ++ (unitFor 3 n).2)) := Lib.hid rfl
        have HD := Lib.hid (refGreat3_any n hi.1 (by have := hi.2; unfold mostV at this; simpa using this))
        generalize mkB (Lib.itoa (n / (unitFor 3 n).1) ++ (unitFor 3 n).2) = P at HV HD
        clear hi
        go_enter Tryd.func22, Tryd.ntmps22
        go_wp2_with fail
        refine (HRC.out _).mono ?_
        rintro e w1 ⟨rfl, hb⟩
        obtain ⟨c0, c1, c2, c3, _, _, _, _⟩ := (hb0.out 29).1.below hb
        have HB := Lib.hid ((hb0.out 29).2.trans (hb.mono (hb0.out 29).2.size))
        clear hb
        go_wp2_with fail
        refine (HD.out _).mono ?_
        rintro e w2 ⟨rfl, hb2⟩
        have HB2 := Lib.hid (HB.out.trans (hb2.mono HB.out.size))
        clear hb2
        go_wp2
        go_ret2
        exact ⟨ret_val (by rw [HV.out]; rfl), HB2.out⟩
      · have HV : Hid (mkB (printV ⟨4, n, t, xs⟩) = mkB (Lib.itoa (n / (unitFor 4 n).1) ++ (unitFor 4 n).2)) := Lib.hid rfl
        have HD := Lib.hid (refGreat4_any n hi.1 (by have := hi.2; unfold mostV at this; simpa using this))
        generalize mkB (Lib.itoa (n / (unitFor 4 n).1) ++ (unitFor 4 n).2) = P at HV HD
        clear hi
        go_enter Tryd.func22, Tryd.ntmps22
        go_wp2_with fail
        refine (HRC.out _).mono ?_
        rintro e w1 ⟨rfl, hb⟩
        obtain ⟨c0, c1, c2, c3, _, _, _, _⟩ := (hb0.out 29).1.below hb
        have HB := Lib.hid ((hb0.out 29).2.trans (hb.mono (hb0.out 29).2.size))
        clear hb
        go_wp2_with fail
        refine (HD.out _).mono ?_
        rintro e w2 ⟨rfl, hb2⟩
        have HB2 := Lib.hid (HB.out.trans (hb2.mono HB.out.size))
        clear hb2
        go_wp2
        go_ret2
        exact ⟨ret_val (by rw [HV.out]; rfl), HB2.out⟩
    · have HV : Hid (mkB (printV ⟨5, n, t, xs⟩) = t) := Lib.hid (by
        rw [show printV ⟨5, n, t, xs⟩ = t.data.toList from rfl, mkB_self])
      clear hi
      go_enter Tryd.func22, Tryd.ntmps22
      go_wp2_with fail
      refine (HRC.out _).mono ?_
      rintro e w1 ⟨rfl, hb⟩
      obtain ⟨c0, c1, c2, c3, _, _, _, _⟩ := (hb0.out 29).1.below hb
      have HB := Lib.hid ((hb0.out 29).2.trans (hb.mono (hb0.out 29).2.size))
      clear hb
      go_wp2
      go_ret2
      exact ⟨ret_val (by rw [HV.out]; rfl), HB.out⟩
    · have HV : Hid (mkB (printV ⟨6, n, t, xs⟩) = mkB (joinW (xs.take N))) := Lib.hid (by
        rw [show printV ⟨6, n, t, xs⟩ = joinW xs from rfl, ← HN.out, List.take_length])
      have HWD : Hid (∀ k (h : k < xs.length), xs[k].size ≤ 32) := Lib.hid fun k h => by
        have hm : xs[k].data.toList ∈ wl xs := List.mem_map.2 ⟨_, List.getElem_mem h, rfl⟩
        have := word_small (List.all_eq_true.1 ha _ hm)
        have h2 : xs[k].data.toList.length = xs[k].size := by simp
        omega
      have HJ0 : Hid (JoinAt xs 0 ⟨#[]⟩) := Lib.hid ⟨rfl, by decide⟩
      have HF := Lib.hid (join_first xs)
      have HNX := Lib.hid (join_next xs)
      have hB1 : (⟨#[44]⟩ : ByteArray).size = 1 := rfl
      have HB2 := Lib.hid (show (⟨#[44]⟩ : ByteArray) = mkB [44] from rfl)
      clear hi ha
      go_enter Tryd.func22, Tryd.ntmps22
      go_wp2_with fail
      refine (HRC.out _).mono ?_
      rintro e w1 ⟨rfl, hb⟩
      obtain ⟨c0, c1, c2, c3, _, _, _, _⟩ := (hb0.out 29).1.below hb
      have HB := Lib.hid ((hb0.out 29).2.trans (hb.mono (hb0.out 29).2.size))
      clear hb
      go_wp2
      go_loop [5, 6] (fun s i => ∃ (k : Nat) (J : ByteArray), i = .int .i64 k ∧ k ≤ N ∧ s = .string J ∧ Hid (JoinAt xs k J)) (fun _ i => N - (intOf i).toNat)
      case atStart => exact ⟨0, _, rfl, by omega, rfl, HJ0⟩
      case round =>
        clear HJ0
        obtain ⟨k, J, rfl, hk, rfl, HJ⟩ := hrel
        by_cases hlt : k < N
        · have hkx : k < xs.length := by rw [HN.out]; exact hlt
          obtain ⟨b, off, hxe, hbl, hc⟩ := HTX.out w1 HB.out k hkx
          have hz := HWD.out k hkx
          have hnx := HNX.out k hkx
          have hfx : k = 0 → mkB (joinW (xs.take (k + 1))) = xs[k] := fun e => by subst e; exact HF.out hkx
          have hjs := HJ.out.2
          generalize xs[k] = p at hc hz hnx hfx
          subst hxe
          have q1 : (0 : Int) ≤ k := by omega
          have q2 : (k : Int) < N := by omega
          by_cases hk0 : k = 0
          · have e0 : (⟨#[]⟩ : ByteArray) ++ p = p := by
              have h1 : (⟨#[]⟩ : ByteArray) ++ mkB p.data.toList = mkB p.data.toList := by rw [show (⟨#[]⟩ : ByteArray) = mkB [] from rfl, mkB_append, List.nil_append]
              rw [mkB_self] at h1; exact h1
            have HJN : Hid (JoinAt xs (k + 1) p) := Lib.hid ⟨(hfx hk0).symm, by omega⟩
            have hJe : J = ⟨#[]⟩ := by rw [HJ.out.1, hk0]; rfl
            subst hJe hk0
            have hcat : ¬ (9223372036854775807 < (⟨#[]⟩ : ByteArray).size + p.size) := by have h2 : (⟨#[]⟩ : ByteArray).size = 0 := rfl; omega
            have hcat0 : ¬ (9223372036854775807 < p.size) := by omega
            have hc0 : w1.cell? ⟨b, off, none⟩ = some (.string p) := hc
            clear hnx hfx hjs HJ hkx
            go_wp2
            go_round
            case rel => exact ⟨1, _, by go_num, by omega, rfl, HJN⟩
            case measure => simp [intOf]; omega
          · have hkp : (0 : Int) < k := by omega
            have HJN : Hid (JoinAt xs (k + 1) ((J ++ (⟨#[44]⟩ : ByteArray)) ++ p)) := Lib.hid ⟨by rw [hnx (by omega), HJ.out.1, HB2.out], by simp only [ByteArray.size_append, hB1]; omega⟩
            have hz1 : (J ++ (⟨#[44]⟩ : ByteArray)).size = J.size + 1 := by rw [ByteArray.size_append]; rfl
            have hcat1 : ¬ (9223372036854775807 < J.size + (⟨#[44]⟩ : ByteArray).size) := by omega
            have hcat2 : ¬ (9223372036854775807 < (J ++ (⟨#[44]⟩ : ByteArray)).size + p.size) := by omega
            have hcat3 : ¬ (9223372036854775807 < J.size + 1) := by omega
            have hcat4 : ¬ (9223372036854775807 < J.size + 1 + p.size) := by omega
            clear hnx hfx hjs HJ hkx hk0 hz1
            go_wp2
            go_round
            case rel => exact ⟨k + 1, _, by go_num, by omega, rfl, HJN⟩
            case measure => simp [intOf]; omega
        · have hkn : k = N := by omega
          have HE : Hid (J = mkB (printV ⟨6, n, t, xs⟩)) := Lib.hid (by rw [HV.out, HJ.out.1, hkn])
          have q2 : ¬ (k : Int) < N := by omega
          clear hkn
          go_wp2
          go_ret2
          exact ⟨ret_val (by rw [HE.out]; rfl), HB.out⟩
end Go.Proofs.YtolibkcdfhbdiaaDoor
