/-
  The walk of IniBack.
-/
import Derived.Test.YtbpbiakdigjcnaaDoorIniBare
namespace Go.Proofs.YtbpbiakdigjcnaaDoor
open Go.ChangeShapes Go.WideShapes Go.ChangeAt Go.RowKit

/-- What lines are printed as, read again, held to them. -/
theorem back_half (ls : List LineV) (hn : ls.length ≤ 4294967280) (hF : Fit ls) :
    ∃ (T : ByteArray) (E : Int) (M : Nat) (IS : Bool), (E = 0 ∧ IS = true ∧ T.size ≤ 8000 ∨ E = 1 ∧ T = ⟨#[]⟩) ∧
      (∀ (x : Option Addr) (c : Nat) (W : World), Lns W x ls → Tab W → Calls Tryd.prog 14 #[.slice x ls.length c] W (fun e w' => e = .returned (.tuple #[.string T, .int .i64 E]) ∧ Below W.heap.size W w')) ∧
      ∀ (W : World), Tab W → MaxI W → Calls Tryd.prog 16 #[.string T] W (fun e w' => ∃ x c, e = .returned (.tuple #[.slice x M c, .int .i64 0, .int .i64 0]) ∧ Below W.heap.size W w' ∧
        ∀ (W' : World) (y : Option Addr) (d : Nat), Below w'.heap.size w' W' → Lns W' y ls → Calls Tryd.prog 17 #[.slice x M c, .slice y ls.length d] W' (fun e w' => e = .returned (.bool IS) ∧ Below W'.heap.size W' w')) := by
  cases h : printF ls with
  | some b =>
    obtain ⟨h1, h2⟩ := print_read h
    have hd : (mkB b).data.toList = b := mkB_data b
    refine ⟨mkB b, 0, ls.length, true, .inl ⟨rfl, rfl, by rw [len_mkB]; exact h2⟩, fun x c W hl hT => ?_, fun W hT hI => ?_⟩
    · have := print_any x c ls W hl hT hn hF
      rw [h] at this
      exact this
    · refine (parse_to (mkB b) (numL 1 ls) 0 0 (by rw [hd]; exact h1) W hT hI (by rw [len_mkB]; omega)).mono ?_
      rintro e w' ⟨x, c, rfl, hb, hl⟩
      rw [numL_len]
      exact ⟨x, c, rfl, hb, fun W' y d hb' hy => bare_yes ls x y c d W' (hl.below hb') hy hn⟩
  | none =>
    have hne : ls.length ≠ 0 := fun e => by
      rw [List.eq_nil_of_length_eq_zero e] at h
      cases h
    refine ⟨⟨#[]⟩, 1, 0, false, .inr ⟨rfl, rfl⟩, fun x c W hl hT => ?_, fun W hT hI => ?_⟩
    · have := print_any x c ls W hl hT hn hF
      rw [h] at this
      exact this
    · refine (parse_to ⟨#[]⟩ [] 0 0 (by kernel_rfl) W hT hI (by decide)).mono ?_
      rintro e w' ⟨x, c, rfl, hb, hl⟩
      exact ⟨x, c, rfl, hb, fun W' y d hb' hy => bare_no 0 ls.length x y c d W' (fun e => hne e.symm)⟩
/-- The lines with blanks at both ends, read, held to what the file gave. -/
theorem pad_half (s : ByteArray) (o : List LineV) (hp : parseB s.data.toList = (o, 0, 0)) (PB : ByteArray) (hPB : PB = mkB (padB s.data.toList)) (hz : PB.size ≤ 4294967280) :
    ∃ (ND : Nat) (G AT : Int) (AL : Bool), (8000 < PB.size ∨ G = 0 ∧ AL = true) ∧
      ∀ (W : World), Tab W → MaxI W → Calls Tryd.prog 16 #[.string PB] W (fun e w' => ∃ x c, e = .returned (.tuple #[.slice x ND c, .int .i64 G, .int .i64 AT]) ∧ Below W.heap.size W w' ∧
        ∀ (W' : World) (y : Option Addr) (d : Nat), Below w'.heap.size w' W' → Lns W' y o → Calls Tryd.prog 15 #[.slice y o.length d, .slice x ND c] W' (fun e w' => e = .returned (.bool AL) ∧ Below W'.heap.size W' w')) := by
  have hd : PB.data.toList = padB s.data.toList := by rw [hPB, mkB_data]
  have hl : PB.size = (padB s.data.toList).length := by rw [hPB, len_mkB]
  have ho := (parse_small hp).2
  by_cases h8 : PB.size ≤ 8000
  · refine ⟨o.length, 0, 0, true, .inr ⟨rfl, rfl⟩, fun W hT hI => ?_⟩
    refine (parse_to PB o 0 0 (by rw [hd, pad_read (by omega)]; exact hp) W hT hI hz).mono ?_
    rintro e w' ⟨x, c, rfl, hb, hlx⟩
    exact ⟨x, c, rfl, hb, fun W' y d hb' hy => isame_any o y x d c W' hy (hlx.below hb') (by omega)⟩
  · have hq : parseB PB.data.toList = ([], 61, 0) := by
      unfold parseB
      rw [if_pos (by rw [hd]; omega)]
    by_cases h0 : o.length = 0
    · have he := List.eq_nil_of_length_eq_zero h0
      subst he
      refine ⟨0, 61, 0, true, .inl (by omega), fun W hT hI => ?_⟩
      refine (parse_to PB [] 61 0 hq W hT hI hz).mono ?_
      rintro e w' ⟨x, c, rfl, hb, hlx⟩
      exact ⟨x, c, rfl, hb, fun W' y d hb' hy => isame_any [] y x d c W' hy (Lns.nil_ _ _) (by simp)⟩
    · refine ⟨0, 61, 0, false, .inl (by omega), fun W hT hI => ?_⟩
      refine (parse_to PB [] 61 0 hq W hT hI hz).mono ?_
      rintro e w' ⟨x, c, rfl, hb, hlx⟩
      exact ⟨x, c, rfl, hb, fun W' y d hb' hy => isame_no o.length 0 y x d c W' h0⟩
theorem padF_len3 (s : List UInt8) : (padF s).length ≤ 3 * s.length := by
  induction s with
  | nil => simp [padF]
  | cons c r ih =>
    unfold padF at ih ⊢
    rw [List.flatMap_cons, List.length_append, List.length_cons]
    have : (if c = 10 then ([9, 10, 32] : List UInt8) else [c]).length ≤ 3 := by split <;> simp
    omega
theorem padF_snoc (l : List UInt8) (c : UInt8) : padF (l ++ [c]) = padF l ++ (if c = 10 then [9, 10, 32] else [c]) := by
  unfold padF
  rw [List.flatMap_append]; simp

set_option maxHeartbeats 6400000 in
set_option maxRecDepth 100000 in
theorem iniBack_any (x : Option Addr) (c : Nat) (ls : List LineV) (s : ByteArray) (w : World) (hL : Lns w x ls) (hm : ls.length ≤ maxLen) (hz : ∀ l ∈ ls, l.name.size ≤ maxLen ∧ l.text.size ≤ maxLen)
    (hs : s.size ≤ maxLen) (hT : Tab w) (hI : MaxI w) :
    Calls Tryd.prog 6 #[.slice x ls.length c, .string s] w fun e w' => e = .returned (.bool true) ∧ Below w.heap.size w w' := by
  obtain ⟨N, hN⟩ : ∃ N, ls.length = N := ⟨_, rfl⟩
  obtain ⟨A, hA⟩ : ∃ A, capB (wN ls) = A := ⟨_, rfl⟩
  have hAi := capB_in (wN ls)
  have HWL := Lib.hid (weight_any x c ls w hL hm hz)
  rw [hA, hN] at HWL
  unfold maxLen at hs
  have hw4 : IntKind.i64.wrap (4 * min (s.size : Int) 2147483647) = 4 * min (s.size : Int) 2147483647 := IntWalk.i64_in _ (by omega)
  obtain ⟨S, hS⟩ : ∃ S, addI A (4 * min (s.size : Int) 2147483647) = S := ⟨_, rfl⟩
  have HA1 : Hid (∀ W, Calls Tryd.prog 8 #[.int .i64 A, .int .i64 (4 * min (s.size : Int) 2147483647)] W fun e w' => e = .returned (.int .i64 S) ∧ W = w') := Lib.hid fun W => by rw [← hS]; exact iadd_any A (4 * min (s.size : Int) 2147483647) W (by omega) (by omega) (by omega) (by omega)
  by_cases hb1 : 2147483647 < S
  · clear hA hS hm hz hAi
    rw [hN]
    go_enter Tryd.func6, Tryd.ntmps6
    go_wp2_with fail
    refine HWL.out.mono ?_
    rintro e w1 ⟨rfl, hb⟩
    have HB1 := Lib.hid hb
    clear hb
    go_wp2_with fail
    refine (HA1.out _).mono ?_
    rintro e w' ⟨rfl, rfl⟩
    go_wp2
    go_ret
    exact ⟨rfl, HB1.out⟩
  have hwA := addI_le (a := A) (b := 4 * min (s.size : Int) 2147483647) (by omega) (by omega) (by rw [hS]; omega)
  have hwA2 := capB_le (hA ▸ hwA.1)
  have hsz : s.size ≤ 536870911 := by omega
  have hF := fit_of_weight (ls := ls) (by omega)
  have hlen := wN_len ls
  obtain ⟨T, E, M, IS, hcs, hp1, hq1⟩ := back_half ls (by omega) hF
  rw [hN] at hp1 hq1
  have HP1 := Lib.hid hp1
  have HQ1 := Lib.hid hq1
  have HC1 := Lib.hid hcs
  have HLX : Hid (∀ W, Below w.heap.size w W → Lns W x ls) := Lib.hid fun W hb => hL.below hb
  have HT : Hid (∀ W, Below w.heap.size w W → Tab W ∧ MaxI W) := Lib.hid fun W hb => ⟨hT.below hb, maxI_below hI hb⟩
  have HAW : Hid (∀ W, Below w.heap.size w W → Calls Tryd.prog 9 #[] W fun e w' => e = .returned (.bool true) ∧ Below W.heap.size W w') := Lib.hid fun W hb => iawake_any W (HT.out W hb).1 (HT.out W hb).2
  obtain ⟨o, G, AT, hps⟩ : ∃ o G AT, parseB s.data.toList = (o, G, AT) := ⟨_, _, _, rfl⟩
  have hpe := parse_err hps
  obtain ⟨hsm, hol⟩ := parse_small hps
  obtain ⟨NO, hNO⟩ : ∃ NO, o.length = NO := ⟨_, rfl⟩
  have HPS : Hid (∀ W, Below w.heap.size w W → Calls Tryd.prog 16 #[.string s] W fun e w' => ∃ x c, e = .returned (.tuple #[.slice x NO c, .int .i64 G, .int .i64 AT]) ∧ Below W.heap.size W w' ∧ Lns w' x o) := Lib.hid fun W hb => by
    have := parse_to s o G AT hps W (HT.out W hb).1 (HT.out W hb).2 (by omega)
    rw [hNO] at this
    exact this
  have hFo : Fit o := fun l hl => by
    have := hsm l hl
    unfold small at this
    omega
  obtain ⟨U, H, M2, IS2, hcs2, hp2, hq2⟩ := back_half o (by omega) hFo
  rw [hNO] at hp2 hq2
  have HP2 := Lib.hid hp2
  have HQ2 := Lib.hid hq2
  have HC2 := Lib.hid hcs2
  obtain ⟨PB, hPB⟩ : ∃ PB, mkB (padB s.data.toList) = PB := ⟨_, rfl⟩
  have hPl : PB.size ≤ 4294967280 := by
    have := padF_len3 s.data.toList
    rw [← hPB, len_mkB]
    unfold padB
    have h1 : s.data.toList.length = s.size := by simp
    simp only [List.length_append, List.length_cons, List.length_nil]
    omega
  have HPB := Lib.hid hPB
  have HPE := Lib.hid hpe
  have HPH : Hid (G = 0 ∧ AT = 0 → ∃ (ND : Nat) (G AT : Int) (AL : Bool), (8000 < PB.size ∨ G = 0 ∧ AL = true) ∧
      ∀ (W : World), Tab W → MaxI W → Calls Tryd.prog 16 #[.string PB] W (fun e w' => ∃ x c, e = .returned (.tuple #[.slice x ND c, .int .i64 G, .int .i64 AT]) ∧ Below W.heap.size W w' ∧
        ∀ (W' : World) (y : Option Addr) (d : Nat), Below w'.heap.size w' W' → Lns W' y o → Calls Tryd.prog 15 #[.slice y NO d, .slice x ND c] W' (fun e w' => e = .returned (.bool AL) ∧ Below W'.heap.size W' w'))) := Lib.hid (by
    rintro ⟨rfl, rfl⟩
    rw [← hNO]
    exact pad_half s o hps PB hPB.symm hPl)
  have HON : Hid (o = [] → NO = 0) := Lib.hid (by rintro rfl; exact hNO.symm)
  have HSL : Hid (s.data.toList.length = s.size) := Lib.hid (by simp)
  have HPZ : Hid (PB.data.toList.length = PB.size) := Lib.hid (by simp)
  clear hA hS hm hz hAi hwA hwA2 hF hlen hp1 hq1 hcs hL hT hI hps hpe hsm hol hFo hp2 hq2 hcs2 hPB hPl hNO
  rw [hN]
  clear hN
  go_enter Tryd.func6, Tryd.ntmps6
  go_wp2_with fail
  refine HWL.out.mono ?_
  rintro e w1 ⟨rfl, hb⟩
  have HB1 := Lib.hid hb
  clear hb
  go_wp2_with fail
  refine (HA1.out _).mono ?_
  rintro e w' ⟨rfl, rfl⟩
  go_wp2_with fail
  refine (HAW.out _ HB1.out).mono ?_
  rintro e w2 ⟨rfl, hb⟩
  have HB2 := Lib.hid (HB1.out.trans (hb.mono HB1.out.size))
  clear hb
  go_wp2_with fail
  refine (HP1.out _ _ _ (HLX.out _ HB2.out) (HT.out _ HB2.out).1).mono ?_
  rintro e w3 ⟨rfl, hb⟩
  have HB3 := Lib.hid (HB2.out.trans (hb.mono HB2.out.size))
  clear hb
  go_wp2_with fail
  refine (HQ1.out _ (HT.out _ HB3.out).1 (HT.out _ HB3.out).2).mono ?_
  rintro e w4 ⟨xa, ca, rfl, hb, hbare⟩
  have HB4 := Lib.hid (HB3.out.trans (hb.mono HB3.out.size))
  have HBA := Lib.hid (hbare w4 x c (Below.refl _ _) (HLX.out _ HB4.out))
  clear hb hbare
  go_wp2_with fail
  refine HBA.out.mono ?_
  rintro e w5 ⟨rfl, hb⟩
  have HB5 := Lib.hid (HB4.out.trans (hb.mono HB4.out.size))
  clear hb HB1 HB2 HB3 HB4 HBA HWL HA1 HAW HP1 HQ1 HLX
  rcases HC1.out with ⟨hE, hIS, hTz⟩ | ⟨hE, hTz⟩
  · subst hE hIS
    have q8 : ¬ (8000 : Int) < (T.size : Int) := by omega
    clear hTz HC1
    go_wp2_with fail
    refine (HPS.out _ HB5.out).mono ?_
    rintro e w6 ⟨xb, cb, rfl, hb, hlb⟩
    have HB6 := Lib.hid (HB5.out.trans (hb.mono HB5.out.size))
    have HL6 := Lib.hid hlb
    clear hb hlb HB5 HPS
    rcases HPE.out with ⟨hG, hAT⟩ | ⟨ho, ⟨hG, hAT, h8⟩ | ⟨hG, hAT⟩⟩
    · obtain ⟨ND, G2, AT2, AL, hend, hpp⟩ := HPH.out ⟨hG, hAT⟩
      have HEND := Lib.hid hend
      have HPP := Lib.hid hpp
      clear hend hpp HPH HPE HON
      subst hG hAT
      go_wp2_with fail
      refine (HP2.out _ _ _ HL6.out (HT.out _ HB6.out).1).mono ?_
      rintro e w7 ⟨rfl, hb⟩
      have HB7 := Lib.hid (HB6.out.trans (hb.mono HB6.out.size))
      have HL7 := Lib.hid (HL6.out.below hb)
      clear hb
      go_wp2_with fail
      refine (HQ2.out _ (HT.out _ HB7.out).1 (HT.out _ HB7.out).2).mono ?_
      rintro e w8 ⟨xc, cc, rfl, hb, hbare⟩
      have HB8 := Lib.hid (HB7.out.trans (hb.mono HB7.out.size))
      have HL8 := Lib.hid (HL7.out.below hb)
      have HBA := Lib.hid (hbare w8 xb cb (Below.refl _ _) HL8.out)
      clear hb hbare HL6 HL7 HB6 HB7
      go_wp2_with fail
      refine HBA.out.mono ?_
      rintro e w9 ⟨rfl, hb⟩
      have HB9 := Lib.hid (HB8.out.trans (hb.mono HB8.out.size))
      have HL9 := Lib.hid (HL8.out.below hb)
      clear hb HB8 HL8 HBA HP2 HQ2
      have HO9 : Hid (Own8 w9 w9 (.slice none 0 0) []) := Lib.hid (Own8.nil_ w9)
      rcases HC2.out with ⟨hH, hI2, hU⟩ | ⟨hH, hU⟩
      · subst hH hI2
        clear hU HC2
        go_wp2_with (at_builtin; refine append8 rfl _ _ rfl HO9.out rfl [32, 9] _ rfl rfl rfl rfl (by simp) ?_; intro v10 w10 ho10; have HO10 := Lib.hid ho10; clear ho10)
        go_loopw [21, 22] (fun u i wr => ∃ (t : Nat) (v : Value) (l : List UInt8), v = u ∧ i = .int .i64 t ∧ t ≤ s.size ∧ l.length ≤ 2 + 3 * t ∧ Hid (l = [32, 9] ++ padF (s.data.toList.take t)) ∧ Hid (Own8 w9 wr v l)) (fun _ i _ => s.size - (intOf i).toNat)
        case atStart => exact ⟨0, _, [32, 9], rfl, rfl, by omega, by simp, Lib.hid (by simp [padF]), HO10⟩
        case round =>
          clear HO10 HO9
          obtain ⟨t, v, l, rfl, rfl, ht, hll, HLL, HO⟩ := hrel
          by_cases hlt : t < s.size
          · have q1 : (0 : Int) ≤ t := by omega
            have q2 : (t : Int) < s.size := by omega
            have HTK := Lib.hid (List.take_succ_eq_append_getElem (l := s.data.toList) (i := t) (by simpa using hlt))
            have HSC : Hid (s.data.toList[t]'(by simpa using hlt) = s[t]) := Lib.hid rfl
            by_cases hc : (s[t].toNat : Int) = 10
            · have d0 : ((s[t].toNat : Int) == 10) = true := beq_iff_eq.2 hc
              have HNX : Hid (l ++ [9, 10, 32] = [32, 9] ++ padF (s.data.toList.take (t + 1))) := Lib.hid (by rw [HTK.out, padF_snoc, HLL.out, HSC.out, if_pos (UInt8.toNat_inj.1 (by simp; omega)), List.append_assoc])
              clear hc
              go_wp2_with (at_builtin; refine append8 rfl _ _ rfl HO.out rfl [9, 10, 32] _ rfl rfl rfl rfl (by simp; omega) ?_; intro v11 w11 ho11; have HO11 := Lib.hid ho11; clear ho11)
              go_roundw
              case rel => exact ⟨t + 1, _, _, rfl, by go_num, by omega, by simp; omega, HNX, HO11⟩
              case measure => simp [intOf]; omega
            · have d0 : ((s[t].toNat : Int) == 10) = false := beq_eq_false_iff_ne.2 hc
              have HNX : Hid (l ++ [s[t]] = [32, 9] ++ padF (s.data.toList.take (t + 1))) := Lib.hid (by rw [HTK.out, padF_snoc, HLL.out, HSC.out, if_neg (fun e => hc (by rw [e]; rfl)), List.append_assoc])
              clear hc
              go_wp2_with (at_builtin; refine append8 rfl _ _ rfl HO.out rfl [s[t]] _ rfl rfl rfl rfl (by simp; omega) ?_; intro v11 w11 ho11; have HO11 := Lib.hid ho11; clear ho11)
              go_roundw
              case rel => exact ⟨t + 1, _, _, rfl, by go_num, by omega, by simp; omega, HNX, HO11⟩
              case measure => simp [intOf]; omega
          · have e : t = s.size := by omega
            subst e
            have q2 : ¬ (s.size : Int) < s.size := by omega
            have HFN : Hid (l ++ [32] = PB.data.toList) := Lib.hid (by rw [← HPB.out, mkB_data, HLL.out, List.take_of_length_le (by rw [HSL.out]; omega)]; rfl)
            go_wp2_with (at_builtin; refine append8 rfl _ _ rfl HO.out rfl [32] _ rfl rfl rfl rfl (by simp; omega) ?_; intro v12 w12 ho12; rw [HFN.out] at ho12; obtain ⟨xo, co, hv12⟩ := own_slice ho12.own; rw [HPZ.out] at hv12; subst hv12; have hst : (convert 32 9 (.slice xo PB.size co)).run Tryd.prog w12 = .ok (.string PB) w12 := (ho12.string 9 32 Tryd.underlying9 Tryd.underlying32 Tryd.underlying5).trans (by rw [str_self]); have HO12 := Lib.hid ho12; clear ho12)
            have HB12 := Lib.hid (HB9.out.trans (HO12.out.below.mono HB9.out.size))
            refine (HPP.out _ (HT.out _ HB12.out).1 (HT.out _ HB12.out).2).mono ?_
            rintro e w13 ⟨xd, cd, rfl, hb, hsame⟩
            have HB13 := Lib.hid (HB12.out.trans (hb.mono HB12.out.size))
            have HSA := Lib.hid (hsame w13 xb cb (Below.refl _ _) ((HL9.out.below HO12.out.below).below hb))
            clear hb hsame
            go_wp2_with fail
            refine HSA.out.mono ?_
            rintro e w14 ⟨rfl, hb⟩
            have HB14 := Lib.hid (HB13.out.trans (hb.mono HB13.out.size))
            clear hb
            by_cases h8 : 8000 < PB.size
            · have q5 : (8000 : Int) < (PB.size : Int) := by omega
              go_wp2
              go_ret
              exact ⟨rfl, HB14.out⟩
            · have q5 : ¬ (8000 : Int) < (PB.size : Int) := by omega
              rcases HEND.out with h | ⟨h1, h2⟩
              · exact absurd h h8
              · subst h1 h2
                go_wp2
                go_ret
                exact ⟨rfl, HB14.out⟩
      · subst hH
        clear hU HC2
        go_wp2_with (at_builtin; refine append8 rfl _ _ rfl HO9.out rfl [32, 9] _ rfl rfl rfl rfl (by simp) ?_; intro v10 w10 ho10; have HO10 := Lib.hid ho10; clear ho10)
        go_loopw [21, 22] (fun u i wr => ∃ (t : Nat) (v : Value) (l : List UInt8), v = u ∧ i = .int .i64 t ∧ t ≤ s.size ∧ l.length ≤ 2 + 3 * t ∧ Hid (l = [32, 9] ++ padF (s.data.toList.take t)) ∧ Hid (Own8 w9 wr v l)) (fun _ i _ => s.size - (intOf i).toNat)
        case atStart => exact ⟨0, _, [32, 9], rfl, rfl, by omega, by simp, Lib.hid (by simp [padF]), HO10⟩
        case round =>
          clear HO10 HO9
          obtain ⟨t, v, l, rfl, rfl, ht, hll, HLL, HO⟩ := hrel
          by_cases hlt : t < s.size
          · have q1 : (0 : Int) ≤ t := by omega
            have q2 : (t : Int) < s.size := by omega
            have HTK := Lib.hid (List.take_succ_eq_append_getElem (l := s.data.toList) (i := t) (by simpa using hlt))
            have HSC : Hid (s.data.toList[t]'(by simpa using hlt) = s[t]) := Lib.hid rfl
            by_cases hc : (s[t].toNat : Int) = 10
            · have d0 : ((s[t].toNat : Int) == 10) = true := beq_iff_eq.2 hc
              have HNX : Hid (l ++ [9, 10, 32] = [32, 9] ++ padF (s.data.toList.take (t + 1))) := Lib.hid (by rw [HTK.out, padF_snoc, HLL.out, HSC.out, if_pos (UInt8.toNat_inj.1 (by simp; omega)), List.append_assoc])
              clear hc
              go_wp2_with (at_builtin; refine append8 rfl _ _ rfl HO.out rfl [9, 10, 32] _ rfl rfl rfl rfl (by simp; omega) ?_; intro v11 w11 ho11; have HO11 := Lib.hid ho11; clear ho11)
              go_roundw
              case rel => exact ⟨t + 1, _, _, rfl, by go_num, by omega, by simp; omega, HNX, HO11⟩
              case measure => simp [intOf]; omega
            · have d0 : ((s[t].toNat : Int) == 10) = false := beq_eq_false_iff_ne.2 hc
              have HNX : Hid (l ++ [s[t]] = [32, 9] ++ padF (s.data.toList.take (t + 1))) := Lib.hid (by rw [HTK.out, padF_snoc, HLL.out, HSC.out, if_neg (fun e => hc (by rw [e]; rfl)), List.append_assoc])
              clear hc
              go_wp2_with (at_builtin; refine append8 rfl _ _ rfl HO.out rfl [s[t]] _ rfl rfl rfl rfl (by simp; omega) ?_; intro v11 w11 ho11; have HO11 := Lib.hid ho11; clear ho11)
              go_roundw
              case rel => exact ⟨t + 1, _, _, rfl, by go_num, by omega, by simp; omega, HNX, HO11⟩
              case measure => simp [intOf]; omega
          · have e : t = s.size := by omega
            subst e
            have q2 : ¬ (s.size : Int) < s.size := by omega
            have HFN : Hid (l ++ [32] = PB.data.toList) := Lib.hid (by rw [← HPB.out, mkB_data, HLL.out, List.take_of_length_le (by rw [HSL.out]; omega)]; rfl)
            go_wp2_with (at_builtin; refine append8 rfl _ _ rfl HO.out rfl [32] _ rfl rfl rfl rfl (by simp; omega) ?_; intro v12 w12 ho12; rw [HFN.out] at ho12; obtain ⟨xo, co, hv12⟩ := own_slice ho12.own; rw [HPZ.out] at hv12; subst hv12; have hst : (convert 32 9 (.slice xo PB.size co)).run Tryd.prog w12 = .ok (.string PB) w12 := (ho12.string 9 32 Tryd.underlying9 Tryd.underlying32 Tryd.underlying5).trans (by rw [str_self]); have HO12 := Lib.hid ho12; clear ho12)
            have HB12 := Lib.hid (HB9.out.trans (HO12.out.below.mono HB9.out.size))
            refine (HPP.out _ (HT.out _ HB12.out).1 (HT.out _ HB12.out).2).mono ?_
            rintro e w13 ⟨xd, cd, rfl, hb, hsame⟩
            have HB13 := Lib.hid (HB12.out.trans (hb.mono HB12.out.size))
            have HSA := Lib.hid (hsame w13 xb cb (Below.refl _ _) ((HL9.out.below HO12.out.below).below hb))
            clear hb hsame
            go_wp2_with fail
            refine HSA.out.mono ?_
            rintro e w14 ⟨rfl, hb⟩
            have HB14 := Lib.hid (HB13.out.trans (hb.mono HB13.out.size))
            clear hb
            by_cases h8 : 8000 < PB.size
            · have q5 : (8000 : Int) < (PB.size : Int) := by omega
              go_wp2
              go_ret
              exact ⟨rfl, HB14.out⟩
            · have q5 : ¬ (8000 : Int) < (PB.size : Int) := by omega
              rcases HEND.out with h | ⟨h1, h2⟩
              · exact absurd h h8
              · subst h1 h2
                go_wp2
                go_ret
                exact ⟨rfl, HB14.out⟩
    · have hno := HON.out ho
      have q5 : (8000 : Int) < (s.size : Int) := by have := HSL.out; omega
      subst hG hAT hno
      clear HPH HPE HON
      go_wp2
      go_ret
      exact ⟨rfl, HB6.out⟩
    · have hno := HON.out ho
      subst hG hno
      clear HPH HPE HON
      go_wp2
      go_ret
      exact ⟨rfl, HB6.out⟩
  · subst hE hTz
    clear HC1
    go_wp2_with fail
    refine (HPS.out _ HB5.out).mono ?_
    rintro e w6 ⟨xb, cb, rfl, hb, hlb⟩
    have HB6 := Lib.hid (HB5.out.trans (hb.mono HB5.out.size))
    have HL6 := Lib.hid hlb
    clear hb hlb HB5 HPS
    rcases HPE.out with ⟨hG, hAT⟩ | ⟨ho, ⟨hG, hAT, h8⟩ | ⟨hG, hAT⟩⟩
    · obtain ⟨ND, G2, AT2, AL, hend, hpp⟩ := HPH.out ⟨hG, hAT⟩
      have HEND := Lib.hid hend
      have HPP := Lib.hid hpp
      clear hend hpp HPH HPE HON
      subst hG hAT
      go_wp2_with fail
      refine (HP2.out _ _ _ HL6.out (HT.out _ HB6.out).1).mono ?_
      rintro e w7 ⟨rfl, hb⟩
      have HB7 := Lib.hid (HB6.out.trans (hb.mono HB6.out.size))
      have HL7 := Lib.hid (HL6.out.below hb)
      clear hb
      go_wp2_with fail
      refine (HQ2.out _ (HT.out _ HB7.out).1 (HT.out _ HB7.out).2).mono ?_
      rintro e w8 ⟨xc, cc, rfl, hb, hbare⟩
      have HB8 := Lib.hid (HB7.out.trans (hb.mono HB7.out.size))
      have HL8 := Lib.hid (HL7.out.below hb)
      have HBA := Lib.hid (hbare w8 xb cb (Below.refl _ _) HL8.out)
      clear hb hbare HL6 HL7 HB6 HB7
      go_wp2_with fail
      refine HBA.out.mono ?_
      rintro e w9 ⟨rfl, hb⟩
      have HB9 := Lib.hid (HB8.out.trans (hb.mono HB8.out.size))
      have HL9 := Lib.hid (HL8.out.below hb)
      clear hb HB8 HL8 HBA HP2 HQ2
      have HO9 : Hid (Own8 w9 w9 (.slice none 0 0) []) := Lib.hid (Own8.nil_ w9)
      rcases HC2.out with ⟨hH, hI2, hU⟩ | ⟨hH, hU⟩
      · subst hH hI2
        clear hU HC2
        go_wp2_with (at_builtin; refine append8 rfl _ _ rfl HO9.out rfl [32, 9] _ rfl rfl rfl rfl (by simp) ?_; intro v10 w10 ho10; have HO10 := Lib.hid ho10; clear ho10)
        go_loopw [21, 22] (fun u i wr => ∃ (t : Nat) (v : Value) (l : List UInt8), v = u ∧ i = .int .i64 t ∧ t ≤ s.size ∧ l.length ≤ 2 + 3 * t ∧ Hid (l = [32, 9] ++ padF (s.data.toList.take t)) ∧ Hid (Own8 w9 wr v l)) (fun _ i _ => s.size - (intOf i).toNat)
        case atStart => exact ⟨0, _, [32, 9], rfl, rfl, by omega, by simp, Lib.hid (by simp [padF]), HO10⟩
        case round =>
          clear HO10 HO9
          obtain ⟨t, v, l, rfl, rfl, ht, hll, HLL, HO⟩ := hrel
          by_cases hlt : t < s.size
          · have q1 : (0 : Int) ≤ t := by omega
            have q2 : (t : Int) < s.size := by omega
            have HTK := Lib.hid (List.take_succ_eq_append_getElem (l := s.data.toList) (i := t) (by simpa using hlt))
            have HSC : Hid (s.data.toList[t]'(by simpa using hlt) = s[t]) := Lib.hid rfl
            by_cases hc : (s[t].toNat : Int) = 10
            · have d0 : ((s[t].toNat : Int) == 10) = true := beq_iff_eq.2 hc
              have HNX : Hid (l ++ [9, 10, 32] = [32, 9] ++ padF (s.data.toList.take (t + 1))) := Lib.hid (by rw [HTK.out, padF_snoc, HLL.out, HSC.out, if_pos (UInt8.toNat_inj.1 (by simp; omega)), List.append_assoc])
              clear hc
              go_wp2_with (at_builtin; refine append8 rfl _ _ rfl HO.out rfl [9, 10, 32] _ rfl rfl rfl rfl (by simp; omega) ?_; intro v11 w11 ho11; have HO11 := Lib.hid ho11; clear ho11)
              go_roundw
              case rel => exact ⟨t + 1, _, _, rfl, by go_num, by omega, by simp; omega, HNX, HO11⟩
              case measure => simp [intOf]; omega
            · have d0 : ((s[t].toNat : Int) == 10) = false := beq_eq_false_iff_ne.2 hc
              have HNX : Hid (l ++ [s[t]] = [32, 9] ++ padF (s.data.toList.take (t + 1))) := Lib.hid (by rw [HTK.out, padF_snoc, HLL.out, HSC.out, if_neg (fun e => hc (by rw [e]; rfl)), List.append_assoc])
              clear hc
              go_wp2_with (at_builtin; refine append8 rfl _ _ rfl HO.out rfl [s[t]] _ rfl rfl rfl rfl (by simp; omega) ?_; intro v11 w11 ho11; have HO11 := Lib.hid ho11; clear ho11)
              go_roundw
              case rel => exact ⟨t + 1, _, _, rfl, by go_num, by omega, by simp; omega, HNX, HO11⟩
              case measure => simp [intOf]; omega
          · have e : t = s.size := by omega
            subst e
            have q2 : ¬ (s.size : Int) < s.size := by omega
            have HFN : Hid (l ++ [32] = PB.data.toList) := Lib.hid (by rw [← HPB.out, mkB_data, HLL.out, List.take_of_length_le (by rw [HSL.out]; omega)]; rfl)
            go_wp2_with (at_builtin; refine append8 rfl _ _ rfl HO.out rfl [32] _ rfl rfl rfl rfl (by simp; omega) ?_; intro v12 w12 ho12; rw [HFN.out] at ho12; obtain ⟨xo, co, hv12⟩ := own_slice ho12.own; rw [HPZ.out] at hv12; subst hv12; have hst : (convert 32 9 (.slice xo PB.size co)).run Tryd.prog w12 = .ok (.string PB) w12 := (ho12.string 9 32 Tryd.underlying9 Tryd.underlying32 Tryd.underlying5).trans (by rw [str_self]); have HO12 := Lib.hid ho12; clear ho12)
            have HB12 := Lib.hid (HB9.out.trans (HO12.out.below.mono HB9.out.size))
            refine (HPP.out _ (HT.out _ HB12.out).1 (HT.out _ HB12.out).2).mono ?_
            rintro e w13 ⟨xd, cd, rfl, hb, hsame⟩
            have HB13 := Lib.hid (HB12.out.trans (hb.mono HB12.out.size))
            have HSA := Lib.hid (hsame w13 xb cb (Below.refl _ _) ((HL9.out.below HO12.out.below).below hb))
            clear hb hsame
            go_wp2_with fail
            refine HSA.out.mono ?_
            rintro e w14 ⟨rfl, hb⟩
            have HB14 := Lib.hid (HB13.out.trans (hb.mono HB13.out.size))
            clear hb
            by_cases h8 : 8000 < PB.size
            · have q5 : (8000 : Int) < (PB.size : Int) := by omega
              go_wp2
              go_ret
              exact ⟨rfl, HB14.out⟩
            · have q5 : ¬ (8000 : Int) < (PB.size : Int) := by omega
              rcases HEND.out with h | ⟨h1, h2⟩
              · exact absurd h h8
              · subst h1 h2
                go_wp2
                go_ret
                exact ⟨rfl, HB14.out⟩
      · subst hH
        clear hU HC2
        go_wp2_with (at_builtin; refine append8 rfl _ _ rfl HO9.out rfl [32, 9] _ rfl rfl rfl rfl (by simp) ?_; intro v10 w10 ho10; have HO10 := Lib.hid ho10; clear ho10)
        go_loopw [21, 22] (fun u i wr => ∃ (t : Nat) (v : Value) (l : List UInt8), v = u ∧ i = .int .i64 t ∧ t ≤ s.size ∧ l.length ≤ 2 + 3 * t ∧ Hid (l = [32, 9] ++ padF (s.data.toList.take t)) ∧ Hid (Own8 w9 wr v l)) (fun _ i _ => s.size - (intOf i).toNat)
        case atStart => exact ⟨0, _, [32, 9], rfl, rfl, by omega, by simp, Lib.hid (by simp [padF]), HO10⟩
        case round =>
          clear HO10 HO9
          obtain ⟨t, v, l, rfl, rfl, ht, hll, HLL, HO⟩ := hrel
          by_cases hlt : t < s.size
          · have q1 : (0 : Int) ≤ t := by omega
            have q2 : (t : Int) < s.size := by omega
            have HTK := Lib.hid (List.take_succ_eq_append_getElem (l := s.data.toList) (i := t) (by simpa using hlt))
            have HSC : Hid (s.data.toList[t]'(by simpa using hlt) = s[t]) := Lib.hid rfl
            by_cases hc : (s[t].toNat : Int) = 10
            · have d0 : ((s[t].toNat : Int) == 10) = true := beq_iff_eq.2 hc
              have HNX : Hid (l ++ [9, 10, 32] = [32, 9] ++ padF (s.data.toList.take (t + 1))) := Lib.hid (by rw [HTK.out, padF_snoc, HLL.out, HSC.out, if_pos (UInt8.toNat_inj.1 (by simp; omega)), List.append_assoc])
              clear hc
              go_wp2_with (at_builtin; refine append8 rfl _ _ rfl HO.out rfl [9, 10, 32] _ rfl rfl rfl rfl (by simp; omega) ?_; intro v11 w11 ho11; have HO11 := Lib.hid ho11; clear ho11)
              go_roundw
              case rel => exact ⟨t + 1, _, _, rfl, by go_num, by omega, by simp; omega, HNX, HO11⟩
              case measure => simp [intOf]; omega
            · have d0 : ((s[t].toNat : Int) == 10) = false := beq_eq_false_iff_ne.2 hc
              have HNX : Hid (l ++ [s[t]] = [32, 9] ++ padF (s.data.toList.take (t + 1))) := Lib.hid (by rw [HTK.out, padF_snoc, HLL.out, HSC.out, if_neg (fun e => hc (by rw [e]; rfl)), List.append_assoc])
              clear hc
              go_wp2_with (at_builtin; refine append8 rfl _ _ rfl HO.out rfl [s[t]] _ rfl rfl rfl rfl (by simp; omega) ?_; intro v11 w11 ho11; have HO11 := Lib.hid ho11; clear ho11)
              go_roundw
              case rel => exact ⟨t + 1, _, _, rfl, by go_num, by omega, by simp; omega, HNX, HO11⟩
              case measure => simp [intOf]; omega
          · have e : t = s.size := by omega
            subst e
            have q2 : ¬ (s.size : Int) < s.size := by omega
            have HFN : Hid (l ++ [32] = PB.data.toList) := Lib.hid (by rw [← HPB.out, mkB_data, HLL.out, List.take_of_length_le (by rw [HSL.out]; omega)]; rfl)
            go_wp2_with (at_builtin; refine append8 rfl _ _ rfl HO.out rfl [32] _ rfl rfl rfl rfl (by simp; omega) ?_; intro v12 w12 ho12; rw [HFN.out] at ho12; obtain ⟨xo, co, hv12⟩ := own_slice ho12.own; rw [HPZ.out] at hv12; subst hv12; have hst : (convert 32 9 (.slice xo PB.size co)).run Tryd.prog w12 = .ok (.string PB) w12 := (ho12.string 9 32 Tryd.underlying9 Tryd.underlying32 Tryd.underlying5).trans (by rw [str_self]); have HO12 := Lib.hid ho12; clear ho12)
            have HB12 := Lib.hid (HB9.out.trans (HO12.out.below.mono HB9.out.size))
            refine (HPP.out _ (HT.out _ HB12.out).1 (HT.out _ HB12.out).2).mono ?_
            rintro e w13 ⟨xd, cd, rfl, hb, hsame⟩
            have HB13 := Lib.hid (HB12.out.trans (hb.mono HB12.out.size))
            have HSA := Lib.hid (hsame w13 xb cb (Below.refl _ _) ((HL9.out.below HO12.out.below).below hb))
            clear hb hsame
            go_wp2_with fail
            refine HSA.out.mono ?_
            rintro e w14 ⟨rfl, hb⟩
            have HB14 := Lib.hid (HB13.out.trans (hb.mono HB13.out.size))
            clear hb
            by_cases h8 : 8000 < PB.size
            · have q5 : (8000 : Int) < (PB.size : Int) := by omega
              go_wp2
              go_ret
              exact ⟨rfl, HB14.out⟩
            · have q5 : ¬ (8000 : Int) < (PB.size : Int) := by omega
              rcases HEND.out with h | ⟨h1, h2⟩
              · exact absurd h h8
              · subst h1 h2
                go_wp2
                go_ret
                exact ⟨rfl, HB14.out⟩
    · have hno := HON.out ho
      have q5 : (8000 : Int) < (s.size : Int) := by have := HSL.out; omega
      subst hG hAT hno
      clear HPH HPE HON
      go_wp2
      go_ret
      exact ⟨rfl, HB6.out⟩
    · have hno := HON.out ho
      subst hG hno
      clear HPH HPE HON
      go_wp2
      go_ret
      exact ⟨rfl, HB6.out⟩
end Go.Proofs.YtbpbiakdigjcnaaDoor
