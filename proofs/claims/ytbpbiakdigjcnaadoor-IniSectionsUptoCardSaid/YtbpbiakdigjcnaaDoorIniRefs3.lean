/-
  The walks of the document's own given and lines.
-/
import Derived.Test.YtbpbiakdigjcnaaDoorIniRefs2
namespace Go.Proofs.YtbpbiakdigjcnaaDoor
open Go.ChangeShapes Go.WideShapes Go.ChangeAt Go.RowKit

theorem cut_at {d : UInt8} {a : List UInt8} (h : d ∉ a) (b : List UInt8) : upTo d (a ++ d :: b) = a ∧ after d (a ++ d :: b) = b ∧ (a ++ d :: b).contains d = true := by
  induction a with
  | nil => exact ⟨upTo_sep _ _, after_sep _ _, by simp⟩
  | cons c r ih =>
    have hc : c ≠ d := fun e => h (by rw [e]; exact List.mem_cons_self ..)
    obtain ⟨h1, h2, h3⟩ := ih (fun hm => h (List.mem_cons_of_mem _ hm))
    exact ⟨by rw [List.cons_append, upTo_cons hc, h1], by rw [List.cons_append, after_cons hc, h2], by rw [List.cons_append, has_cons hc, h3]⟩
set_option maxHeartbeats 1600000 in
set_option maxRecDepth 100000 in
theorem given_any (sec s : ByteArray) (w : World) (hs : s.size ≤ 1000000) (hc : sec.size ≤ 1000000) :
    Calls Tryd.prog 31 #[.string sec, .string s] w fun e w' => e = .returned (.tuple #[.string (mkB (docGiven sec.data.toList s.data.toList).1), .string (mkB (docGiven sec.data.toList s.data.toList).2.1), .bool (docGiven sec.data.toList s.data.toList).2.2]) ∧ Below w.heap.size w w' := by
  obtain ⟨G, hG⟩ : ∃ G, docGiven sec.data.toList s.data.toList = G := ⟨_, rfl⟩
  have HG := Lib.hid hG
  rw [hG]
  have HCL : Hid (sec.data.toList.length = sec.size) := Lib.hid (by simp)
  have HSL : Hid (s.data.toList.length = s.size) := Lib.hid (by simp)
  have HSE : Hid (mkB sec.data.toList = sec) := Lib.hid (mkB_self _)
  clear hG
  go_enter Tryd.func31, Tryd.ntmps31
  go_wp2
  go_loop [7] (fun i => ∃ k : Nat, i = .int .i64 k ∧ k ≤ s.size ∧ Hid (61 ∉ s.data.toList.take k)) (fun i => s.size - (intOf i).toNat)
  case atStart => exact ⟨0, rfl, by omega, Lib.hid (by simp)⟩
  case round =>
    obtain ⟨k, rfl, hk, HP⟩ := hrel
    by_cases hlt : k < s.size
    · have hb := byte_le s k hlt
      have HD := Lib.hid (drop_byte s k hlt)
      by_cases c1 : (s[k].toNat : Int) = 61
      · have e : s[k] = 61 := UInt8.toNat_inj.1 (by simp; omega)
        have HW : Hid (s.data.toList = s.data.toList.take k ++ 61 :: s.data.toList.drop (k + 1)) := Lib.hid (by
          conv => lhs; rw [← List.take_append_drop k s.data.toList, HD.out, e])
        have d1 := ne_false c1
        clear c1 e
        have HU : Hid (upTo 61 s.data.toList = s.data.toList.take k ∧ after 61 s.data.toList = s.data.toList.drop (k + 1) ∧ s.data.toList.contains 61 = true) := Lib.hid (by
          have h := HP.out
          have hw := HW.out
          generalize s.data.toList.take k = a at *
          generalize s.data.toList.drop (k + 1) = b at *
          rw [hw]
          exact cut_at h b)
        have l1 : (trimB (s.data.toList.take k)).length ≤ 1000000 := by
          have h1 := trimB_len (s.data.toList.take k)
          have h2 : (s.data.toList.take k).length ≤ s.data.toList.length := List.length_take_le' _ _
          have := HSL.out
          omega
        have l2 : (trimB (s.data.toList.drop (k + 1))).length ≤ 1000000 := by
          have h1 := trimB_len (s.data.toList.drop (k + 1))
          have := HSL.out
          rw [List.length_drop] at h1
          omega
        have HT1 : Hid (∀ w1, Calls Tryd.prog 23 #[.string (s.extract 0 k)] w1 fun e w' => e = .returned (.string (mkB (trimB (s.data.toList.take k)))) ∧ w1 = w') := Lib.hid fun w1 => by
          have h := trimmed_any (s.extract 0 k) w1 (by simp; omega)
          rw [Lib.extract_data, List.drop_zero, Nat.sub_zero] at h
          exact h
        have HT2 : Hid (∀ w1, Calls Tryd.prog 23 #[.string (s.extract (k + 1) s.size)] w1 fun e w' => e = .returned (.string (mkB (trimB (s.data.toList.drop (k + 1))))) ∧ w1 = w') := Lib.hid fun w1 => by
          have h := trimmed_any (s.extract (k + 1) s.size) w1 (by simp; omega)
          rw [Lib.extract_to_end] at h
          exact h
        have HG2 : Hid (G = (sec.data.toList ++ trimB (s.data.toList.take k), (docMeant (trimB (s.data.toList.drop (k + 1)))).1, (docMeant (trimB (s.data.toList.drop (k + 1)))).2 && nameB (sec.data.toList ++ trimB (s.data.toList.take k)) && partsB (trimB (s.data.toList.take k)))) := Lib.hid (by
          rw [← HG.out]; unfold docGiven
          rw [HU.out.1, HU.out.2.1, HU.out.2.2, if_neg (by decide)])
        clear HW HU HP HD
        generalize trimB (s.data.toList.take k) = a at *
        generalize trimB (s.data.toList.drop (k + 1)) = b at *
        have hj : sec ++ mkB a = mkB (sec.data.toList ++ a) := by conv => lhs; rw [← HSE.out, mkB_join]
        have zj : ¬ 9223372036854775807 < sec.size + (mkB a).size := by rw [len_mkB]; omega
        have HN : Hid (∀ w1, Calls Tryd.prog 20 #[.string (sec ++ mkB a)] w1 fun e w' => e = .returned (.bool (nameB (sec.data.toList ++ a))) ∧ w1 = w') := Lib.hid fun w1 => by
          have h := refIsName_any (mkB (sec.data.toList ++ a)) w1 (by rw [len_mkB, List.length_append, HCL.out]; omega)
          rw [mkB_data] at h
          rw [hj]; exact h
        have HPA : Hid (∀ w1, Calls Tryd.prog 40 #[.string (mkB a)] w1 fun e w' => e = .returned (.bool (partsB a)) ∧ w1 = w') := Lib.hid fun w1 => by
          have h := parts_any (mkB a) w1 (by rw [len_mkB]; unfold maxLen; omega)
          rw [mkB_data] at h
          exact h
        have HM : Hid (∀ w1, Calls Tryd.prog 41 #[.string (mkB b)] w1 fun e w' => e = .returned (.tuple #[.string (mkB (docMeant b).1), .bool (docMeant b).2]) ∧ Below w1.heap.size w1 w') := Lib.hid fun w1 => by
          have h := refMeant_any (mkB b) w1 (by rw [len_mkB]; omega)
          rw [mkB_data] at h
          exact h
        have HJ := Lib.hid hj
        clear hj
        obtain ⟨A, hA⟩ : ∃ A, mkB a = A := ⟨_, rfl⟩
        obtain ⟨Bb, hBb⟩ : ∃ Bb, mkB b = Bb := ⟨_, rfl⟩
        rw [hA] at HT1 HPA HN HJ zj
        rw [hBb] at HT2 HM
        generalize docMeant b = dm at *
        generalize nameB (sec.data.toList ++ a) = nb at *
        generalize partsB a = pb at *
        clear hA hBb
        go_wp2_with fail
        refine (HT1.out _).mono ?_
        rintro e w' ⟨rfl, rfl⟩
        go_wp2_with fail
        refine (HT2.out _).mono ?_
        rintro e w' ⟨rfl, rfl⟩
        go_wp2_with fail
        refine (HM.out _).mono ?_
        rintro e w1 ⟨rfl, hb1⟩
        go_wp2_with fail
        refine (HN.out _).mono ?_
        rintro e w' ⟨rfl, rfl⟩
        obtain ⟨dt, dk⟩ := dm
        simp only at HG2
        cases dk with
        | false =>
          go_wp2
          go_ret3
          exact ⟨by rw [HG2.out]; simp only; rw [← HJ.out]; first | done | rfl, hb1⟩
        | true =>
          cases nb with
          | false =>
            go_wp2
            go_ret3
            exact ⟨by rw [HG2.out]; simp only; rw [← HJ.out]; first | done | rfl, hb1⟩
          | true =>
            go_wp2_with fail
            refine (HT1.out _).mono ?_
            rintro e w' ⟨rfl, rfl⟩
            go_wp2_with fail
            refine (HPA.out _).mono ?_
            rintro e w' ⟨rfl, rfl⟩
            go_wp2
            go_ret3
            exact ⟨by rw [HG2.out]; simp only; rw [← HJ.out]; first | done | rfl, hb1⟩
      · have e : ¬ (61 : UInt8) = s[k] := fun e => c1 (by rw [← e]; rfl)
        have HN : Hid (61 ∉ s.data.toList.take (k + 1)) := Lib.hid (by
          rw [List.take_succ_eq_append_getElem (by simpa using hlt)]
          intro hm
          rcases List.mem_append.1 hm with h | h
          · exact HP.out h
          · exact e (List.mem_singleton.1 h))
        have d1 := ne_true c1
        clear c1 e
        go_wp2
        go_round
        case rel => exact ⟨k + 1, by go_num, by omega, HN⟩
        case measure => simp [intOf]; omega
    · have hks : k = s.size := by omega
      subst hks
      have HE : Hid (G = ([], [], false)) := Lib.hid (by
        rw [← HG.out]; unfold docGiven
        rw [if_pos]
        have h := HP.out
        rw [List.take_of_length_le (by rw [HSL.out]; omega)] at h
        simpa using h)
      go_wp2
      go_ret3
      exact ⟨by rw [HE.out]; first | done | rfl, Below.refl _ _⟩

/-- A text goes to a list of texts. -/
theorem appendT {ops : Array Oper} {rest : List Oper} {o : Oper} {a : Act} {Q : Exit → Act → World → Prop} (hgd : o.guard = none) (s x : Operand)
    (ho : o.op = .call { callee := .builtin .append, args := #[s, x], argTypes := #[25, 25] }) {B n : Nat} {w : World} {v : Value} {t : ByteArray} {vs : List Value} (hown : w.ownsRow B 9 1 v n vs) (hB : B ≤ w.heap.size) (hn : n ≤ 10000000000) (hs : a.eval s = v)
    {c : Nat} (hx : a.eval x = .slice (some ⟨w.heap.size, 0, none⟩) 1 c)
    (h : ∀ g cap w', w'.ownsRow B 9 1 (.slice (some ⟨g, 0, none⟩) (n + 1) cap) (n + 1) (vs ++ [.string t]) → (w.alloc (Obj.cells #[.string t] 9)).grownBy w' v.ownBlock → wpList Tryd.prog ops Q rest (a.put o.dst (.slice (some ⟨g, 0, none⟩) (n + 1) cap)) w') :
    wpList Tryd.prog ops Q (o :: rest) a (w.alloc (Obj.cells #[.string t] 9)) := by
  obtain ⟨i0, hi, hz0, hz1, hz2⟩ := info_parts infoStr
  refine wpList_append_lies _ hgd s x _ ho B 9 i0 _ 1 16 Tryd.underlying25 hi hz0 hz1 hz2 rfl (by decide) v n vs hs (hown.alloc _) ⟨w.heap.size, 0, none⟩ 1 c [.string t] hx rfl (World.news_of_block (heap_alloc_new w _)) ?_ (by decide) (by unfold maxLen; omega) (by omega) (Nat.le_trans hB (below_one w _).size) _ rfl ?_
  · intro u' hu'
    rw [List.mem_singleton.1 hu']; rfl
  · intro g cap w1 h1 h2 _ _
    exact h g cap w1 h1 h2
def strL (xs : List (List UInt8)) : List Value := xs.map fun x => .string (mkB x)
/-- A list of texts of a call's own. -/
structure OwnS (w0 w : World) (v : Value) (xs : List (List UInt8)) : Prop where
  own : w.ownsRow w0.heap.size 9 1 v xs.length (strL xs)
  below : Below w0.heap.size w0 w
theorem OwnS.push {w0 w w' : World} {v v' : Value} {xs : List (List UInt8)} {x : List UInt8} {o : Obj} (h : OwnS w0 w v xs) (ho : w'.ownsRow w0.heap.size 9 1 v' (xs.length + 1) (strL xs ++ [.string (mkB x)])) (hg : (w.alloc o).grownBy w' v.ownBlock) : OwnS w0 w' v' (xs ++ [x]) :=
  ⟨by
    have e1 : (xs ++ [x]).length = xs.length + 1 := by simp
    have e2 : strL (xs ++ [x]) = strL xs ++ [.string (mkB x)] := by unfold strL; simp
    rw [e1, e2]; exact ho, (h.below.alloc h.below.size _).grown hg (Nat.le_trans h.below.size (below_one w o).size) (fun k hk => (h.own.lt k hk).1)⟩
set_option maxHeartbeats 1600000 in
set_option maxRecDepth 100000 in
theorem lines_any (s : ByteArray) (w : World) (hs : s.size ≤ 1000000) :
    Calls Tryd.prog 29 #[.string s] w fun e w' => ∃ v, e = .returned v ∧ OwnS w w' v (cuts 10 s.data.toList) := by
  obtain ⟨C, hC⟩ : ∃ C, cuts 10 s.data.toList = C := ⟨_, rfl⟩
  have HC0 : Hid (C = [] ++ cuts 10 (s.data.toList.drop 0)) := Lib.hid hC.symm
  rw [hC]
  clear hC
  have H0 : Hid (OwnS w w (.slice none 0 0) []) := Lib.hid ⟨World.ownsRow_nil _ _ _ _, Below.refl _ _⟩
  go_enter Tryd.func29, Tryd.ntmps29
  go_wp2
  go_loopw [3, 4, 5] (fun v fr i wr => ∃ (f k : Nat) (xs : List (List UInt8)), fr = .int .i64 f ∧ i = .int .i64 k ∧ f ≤ k ∧ k ≤ s.size ∧ xs.length ≤ f ∧ Hid (OwnS w wr v xs) ∧ Hid (C = xs ++ cuts 10 (s.data.toList.drop f)) ∧ Hid (10 ∉ (s.data.toList.drop f).take (k - f))) (fun _ _ i _ => s.size - (intOf i).toNat)
  case atStart => exact ⟨0, 0, [], rfl, rfl, by omega, by omega, by simp, H0, HC0, Lib.hid (by simp)⟩
  case round =>
    clear HC0 H0
    obtain ⟨f, k, xs, rfl, rfl, hf, hk, hx, HO, HC, HP⟩ := hrel
    by_cases hlt : k < s.size
    · have hb := byte_le s k hlt
      have HD := Lib.hid (drop_byte s k hlt)
      by_cases c1 : (s[k].toNat : Int) = 10
      · have e : s[k] = 10 := UInt8.toNat_inj.1 (by simp; omega)
        have HN : Hid (C = (xs ++ [(s.data.toList.drop f).take (k - f)]) ++ cuts 10 (s.data.toList.drop (k + 1))) := Lib.hid (by
          rw [HC.out, List.append_assoc]
          congr 1
          have hw : s.data.toList.drop f = (s.data.toList.drop f).take (k - f) ++ 10 :: s.data.toList.drop (k + 1) := by
            conv => lhs; rw [← List.take_append_drop (k - f) (s.data.toList.drop f), List.drop_drop, show f + (k - f) = k by omega, HD.out, e]
          have h := HP.out
          generalize (s.data.toList.drop f).take (k - f) = a at *
          rw [hw, cuts_line h]; rfl)
        have HX : Hid (s.extract f k = mkB ((s.data.toList.drop f).take (k - f))) := Lib.hid (by rw [← mkB_self (s.extract f k), Lib.extract_data])
        have d1 := beq_iff_eq.2 c1
        clear c1 e
        go_wp2_with (at_builtin; refine appendT rfl _ _ rfl HO.out.own HO.out.below.size (by omega) rfl rfl ?_; intro g cap w2 hown hgrow; rw [HX.out] at hown; have HO2 := Lib.hid (HO.out.push hown hgrow); clear hown hgrow)
        go_roundw
        case rel => exact ⟨k + 1, k + 1, _, by go_num, by go_num, by omega, by omega, by simp; omega, HO2, HN, Lib.hid (by simp)⟩
        case measure => simp [intOf]; omega
      · have e : ¬ (10 : UInt8) = s[k] := fun e => c1 (by rw [← e]; rfl)
        have HN : Hid (10 ∉ (s.data.toList.drop f).take (k + 1 - f)) := Lib.hid (by
          rw [← cut_step s f k hf hlt]
          intro hm
          rcases List.mem_append.1 hm with h | h
          · exact HP.out h
          · exact e (List.mem_singleton.1 h))
        have d1 := beq_eq_false_iff_ne.2 c1
        clear c1 e
        go_wp2
        go_roundw
        case rel => exact ⟨f, k + 1, xs, rfl, by go_num, by omega, by omega, hx, HO, HC, HN⟩
        case measure => simp [intOf]; omega
    · have hks : k = s.size := by omega
      subst hks
      have HN : Hid (C = xs ++ [s.data.toList.drop f]) := Lib.hid (by
        rw [HC.out, cuts_none]
        have h := HP.out
        rw [List.take_of_length_le (by simp)] at h
        exact h)
      have HX : Hid (s.extract f s.size = mkB (s.data.toList.drop f)) := Lib.hid (by rw [← mkB_self (s.extract f s.size), Lib.extract_to_end])
      go_wp2_with (at_builtin; refine appendT rfl _ _ rfl HO.out.own HO.out.below.size (by omega) rfl rfl ?_; intro g cap w2 hown hgrow; rw [HX.out] at hown; have HO2 := Lib.hid (HO.out.push hown hgrow); clear hown hgrow)
      go_ret
      exact ⟨_, rfl, by rw [HN.out]; exact HO2.out⟩
end Go.Proofs.YtbpbiakdigjcnaaDoor
