/-
  RefsWait, RefsUw, RefsSpW.
-/
import Derived.Test.YtopghlnoklajkaaGreatDoorQRefsSpk
import Derived.Test.YtopghlnoklajkaaGreatDoorQValuePrint
import Derived.Test.YtopghlnoklajkaaGreatDoorQBut
namespace Go.Proofs.YtopghlnoklajkaaGreatDoor
open Go.ChangeShapes Go.WideShapes Go.ChangeAt Go.RowKit

def anyU (f : List UInt8 → Option Value) (l : List (List UInt8)) : Bool := l.any fun nm => (f nm).isSome
theorem anyU_drop (f : List UInt8 → Option Value) (l : List (List UInt8)) (k : Nat) (h : k < l.length) : anyU f (l.drop k) = ((f l[k]).isSome || anyU f (l.drop (k + 1))) := by
 unfold anyU
 rw [List.drop_eq_getElem_cons h, List.any_cons]
set_option maxHeartbeats 1600000 in
set_option maxRecDepth 100000 in
theorem waits_any (t : ByteArray) (x : Option Addr) (c : Nat) (l : List (List UInt8)) (M k : Nat) (f : List UInt8 → Option Value) (w : World) (hx : TxAt w x (l.map mkB)) (hm : VMap w M k f) (hn : l.length ≤ 4294967290) (hz : ∀ nm ∈ l, nm.length ≤ 4294967280)
  (hv : ∀ nm, ∃ t x n c, (f nm).getD (spV ⟨#[]⟩ none 0 0) = spV t x n c) :
  Calls Tryz.prog 108 #[spV t x l.length c, .map (some M)] w fun e w' => e = .returned (.bool (anyU f l)) ∧ Below w.heap.size w w' := by
 obtain ⟨R, hR⟩ : ∃ R, anyU f l = R := ⟨_, rfl⟩
 have HR : Hid (anyU f (l.drop 0) = R) := Lib.hid hR
 obtain ⟨n, hn'⟩ : ∃ n, l.length = n := ⟨_, rfl⟩
 have HN := Lib.hid hn'
 have HX := Lib.hid hx
 have HM := Lib.hid hm
 have HZ := Lib.hid hz
 have HV := Lib.hid hv
 have HB0 : Hid (∀ o, Below w.heap.size w (w.alloc o)) := Lib.hid (below_one w)
 rw [hR]
 unfold spV
 rw [hn'] at hn ⊢
 clear hx hm hz hv hR hn'
 go_enter Tryz.func108, Tryz.ntmps108
 go_wp2
 go_loopw [12] (fun i wr => ∃ q : Nat, i = .int .i64 q ∧ q ≤ n ∧ Hid (anyU f (l.drop q) = R) ∧ Hid (Below w.heap.size w wr)) (fun i _ => n - (intOf i).toNat)
 case atStart => exact ⟨0, rfl, by omega, HR, HB0.out _⟩
 case round =>
  clear HR HB0
  obtain ⟨q, rfl, hq, HR, HB⟩ := hrel
  by_cases hlt : q < n
  ·have q1 : (0 : Int) ≤ q := by omega
   have q2 : (q : Int) < n := by omega
   have hql : q < l.length := by rw [HN.out]; exact hlt
   obtain ⟨b, off, hb, hbl, hc⟩ := (TxAt.below HX.out HB.out) q (by rw [List.length_map]; exact hql)
   rw [List.getElem_map] at hc
   have hzq := HZ.out _ (List.getElem_mem hql)
   have hRR := HR.out
   rw [anyU_drop f l q hql] at hRR
   have hfv := HV.out l[q]
   generalize l[q] = nm at hc hzq hRR hfv
   have HRR := Lib.hid hRR
   obtain ⟨t1, x1, n1, c1, hfv⟩ := hfv
   unfold spV at hfv
   have hnz : (mkB nm).size ≤ maxLen := by rw [mkB_sz]; unfold maxLen; omega
   obtain ⟨bb, hbb⟩ : ∃ bb, (f nm).isSome = bb := ⟨_, rfl⟩
   have HBB := Lib.hid hbb
   rw [← mkB_list nm] at hfv hbb
   subst hb
   have HMM := Lib.hid (HM.out.below HB.out)
   clear hzq hRR hql HR
   generalize mkB nm = NB at *
   cases bb with
   | true =>
    have HRT : Hid (R = true) := Lib.hid (by rw [← HRR.out, HBB.out]; rfl)
    go_wp2_with (at_lookup; refine wpList_look_ok_v rfl _ _ 142 149 rfl Tryz.underlying142 _ (zeroS _) rfl _ rfl HMM.out hnz _ hfv _ hbb ?_)
    go_ret
    exact ⟨by rw [HRT.out]; rfl, HB.out.trans ((below_one wr _).mono HB.out.size)⟩
   | false =>
    have HRT : Hid (anyU f (l.drop (q + 1)) = R) := Lib.hid (by rw [← HRR.out, HBB.out]; rfl)
    go_wp2_with (at_lookup; refine wpList_look_ok_v rfl _ _ 142 149 rfl Tryz.underlying142 _ (zeroS _) rfl _ rfl HMM.out hnz _ hfv _ hbb ?_)
    go_roundw
    case rel => exact ⟨q + 1, by go_num, by omega, HRT, Lib.hid (HB.out.trans ((below_one wr _).mono HB.out.size))⟩
    case measure => simp [intOf]; omega
  ·obtain rfl : q = n := by omega
   have q2 : ¬ (q : Int) < q := by omega
   have HRT : Hid (R = false) := Lib.hid (by rw [← HR.out, List.drop_eq_nil_of_le (by rw [HN.out]; exact Nat.le_refl _)]; rfl)
   clear HR
   go_wp2
   go_ret
   exact ⟨by rw [HRT.out]; rfl, HB.out⟩
theorem fU_val (S : Spk) (ns : List ByteArray) (U : Nat → Bool) (nm : List UInt8) : ∃ t x n c, (fU S ns U nm).getD (spV ⟨#[]⟩ none 0 0) = spV t x n c := by
 unfold fU
 cases plO ns nm with
 | none => exact ⟨_, _, _, _, rfl⟩
 | some i =>
  simp only
  cases U i with
  | true => exact ⟨_, _, _, _, rfl⟩
  | false => exact ⟨_, _, _, _, rfl⟩
theorem take_filt (f : List UInt8 → Option Nat) (L : List (List UInt8)) (q : Nat) (h : q < L.length) {k : Nat} (hk : f L[q] = some k) : (L.take (q + 1)).filterMap f = (L.take q).filterMap f ++ [k] := by
 rw [List.take_succ_eq_append_getElem h, List.filterMap_append]
 congr 1
 rw [List.filterMap_cons, hk]; rfl
theorem field_names (W : World) (t : ByteArray) (x : Option Addr) (n c : Nat) : (Instr.field 149 (.agg #[.string t, .slice x n c]) 1).run Tryz.prog W = .ok (.slice x n c) W := by
 simp [Instr.field, asAgg, run_underlying Tryz.underlying149, Tryz.isAgg24, go_sem]
def LdRes (S : Spk) (ns : List ByteArray) (w0 : World) (M k0 : Nat) (at_ to : Nat) (U : Nat → Bool) (e : Ending) (w' : World) : Prop :=
 ∃ r U', e = .returned (.bool r) ∧ w0.grownBy w' (some M) ∧ VMap w' M k0 (fU S ns U') ∧ (∀ v, U' v = true → U v = true) ∧ (r = true → Lead (scP S.P (plO ns)) at_ to) ∧ (r = false → Sought (scP S.P (plO ns)) at_ to U U')
set_option maxHeartbeats 3200000 in
set_option maxRecDepth 100000 in
theorem leads_any (S : Spk) (ns : List ByteArray) (n : Nat) (hns : ns.length = n) (hd : Dis ns) (hsz : ∀ s ∈ ns, s.size ≤ 4294967280) (w0 : World) (M k0 : Nat) (HS : Hid (∀ W, w0.grownBy W (some M) → SpkAt W S n))
  (hpl : ∀ i, i < n → ∀ nm ∈ namesL (S.P i), ∃ k, plO ns nm = some k ∧ k < n) (hlz : ∀ i, i < n → (namesL (S.P i)).length ≤ 4294967290) (to : Nat) (hto : to < n) :
  ∀ (m at_ : Nat) (U : Nat → Bool) (W : World), unm n (fun j => !U j) = m → w0.grownBy W (some M) → VMap W M k0 (fU S ns U) → (hat : at_ < n) →
   Calls Tryz.prog 77 #[.string (ns[at_]'(by omega)), .string (ns[to]'(by omega)), .map (some M)] W (LdRes S ns w0 M k0 at_ to U) := by
 have hfd := field_names
 intro m
 induction m using Nat.strongRecOn with
 | ind m ih =>
  intro at_ U W hmm hw hv hat
  have hfa := fU_at S hd (by omega : at_ < ns.length) U
  have hza := hsz _ (List.getElem_mem (by omega : at_ < ns.length))
  have hzt := hsz _ (List.getElem_mem (by omega : to < ns.length))
  have HV := Lib.hid hv
  have HDR : Hid (∀ W, VMap W M k0 (updF (fU S ns U) (ns[at_]'(by omega)).data.toList none) → VMap W M k0 (fU S ns (fun v => U v && !decide (v = at_)))) := Lib.hid fun W h => h.ext fun k => fU_drop S hd (by omega) U k
  have hsx : (ns[at_]'(by omega)).size ≤ maxLen := by unfold maxLen; omega
  have HNA : Hid (∀ k (hk : k < n), ∀ nm, plO ns nm = some k → mkB nm = ns[k]'(by omega)) := Lib.hid fun k hk nm h => by
   obtain ⟨h1, h2⟩ := pl_is h
   rw [← h2]; exact mkB_self _
  have HNT : Hid (∀ k (hk : k < n), k ≠ to → ((ns[k]'(by omega)).toList == (ns[to]'(by omega)).toList) = false) := Lib.hid fun k hk hne => by
   rw [beq_eq_false_iff_ne]
   intro e
   rw [Lib.toList_data, Lib.toList_data] at e
   exact hne (hd k to (by omega) (by omega) (by rw [← mkB_self ns[k], ← mkB_self ns[to], e]))
  cases hua : U at_ with
  | false =>
   rw [hua, if_neg (by decide)] at hfa
   have hg : (fU S ns U (ns[at_]'(by omega)).data.toList).getD (spV ⟨#[]⟩ none 0 0) = .agg #[.string ⟨#[]⟩, .slice none 0 0] := by rw [hfa]; rfl
   have HE : Hid (∀ W', VMap W' M k0 (fU S ns (fun v => U v && !decide (v = at_))) → W.grownBy W' (some M) → LdRes S ns w0 M k0 at_ to U (.returned (.bool false)) W') := Lib.hid fun W' h1 h2 => by
    refine ⟨false, U, rfl, hw.trans h2, h1.ext fun k => ?_, fun _ h => h, fun h => (by cases h), fun _ => Sought.none_ hua⟩
    have : (fun v => U v && !decide (v = at_)) = U := by
     funext v
     by_cases e : v = at_
     ·subst e; rw [hua]; rfl
     ·simp [e]
    rw [this]
   clear ih hmm hw hv hfa hua HNA HNT
   generalize ns[at_] = NA at *
   generalize ns[to] = NT at *
   go_enter Tryz.func77, Tryz.ntmps77
   go_wp2_with (first
    | (at_lookup; refine wpList_look_v rfl _ _ 142 149 rfl Tryz.underlying142 _ (zeroS _) rfl _ rfl HV.out hsx _ hg ?_)
    | (at_delete; refine wpList_drop_v rfl _ _ 142 149 rfl Tryz.underlying142 rfl _ rfl HV.out hsx ?_; intro w1 hm1 hg1; have H1 := Lib.hid (HE.out w1 (HDR.out w1 hm1) hg1); clear hm1 hg1)
    | fail)
   go_loopw [18] (fun i wr => i = .int .i64 0 ∧ Hid (LdRes S ns w0 M k0 at_ to U (.returned (.bool false)) wr)) (fun _ _ => 0)
   case atStart => exact ⟨rfl, H1⟩
   case round =>
    obtain ⟨rfl, HR⟩ := hrel
    have q2 : ¬ (0 : Int) < 0 := by omega
    go_wp2
    go_ret
    exact HR.out
  | true =>
   rw [hua, if_pos rfl] at hfa
   obtain ⟨L, hL⟩ : ∃ L, namesL (S.P at_) = L := ⟨_, rfl⟩
   obtain ⟨z, hz⟩ : ∃ z, L.length = z := ⟨_, rfl⟩
   have HZ := Lib.hid hz
   have hzl : z ≤ 4294967290 := by rw [← hz, ← hL]; exact hlz at_ hat
   obtain ⟨x, hx⟩ : ∃ x, S.X at_ = x := ⟨_, rfl⟩
   obtain ⟨c, hc⟩ : ∃ c, S.C at_ = c := ⟨_, rfl⟩
   obtain ⟨t, ht⟩ : ∃ t, mkB (S.T at_) = t := ⟨_, rfl⟩
   have hval : S.val at_ = .agg #[.string t, .slice x z c] := by unfold Spk.val spV; rw [hL, hz, hx, hc, ht]
   have hg : (fU S ns U (ns[at_]'(by omega)).data.toList).getD (spV ⟨#[]⟩ none 0 0) = .agg #[.string t, .slice x z c] := by rw [hfa, hval]; rfl
   have HX : Hid (∀ W, w0.grownBy W (some M) → TxAt W x (L.map mkB)) := Lib.hid fun W hW => by
    have := ((HS.out W hW) at_ hat).1
    rw [hx, hL] at this; exact this
   have HP : Hid (∀ nm ∈ L, ∃ k, plO ns nm = some k ∧ k < n) := Lib.hid (by rw [← hL]; exact hpl at_ hat)
   have HALL : Hid (∀ k ∈ scP S.P (plO ns) at_, k ∈ L.filterMap (plO ns)) := Lib.hid fun k hk => by
    obtain ⟨nm, h1, h2⟩ := mem_sc.1 hk
    rw [hL] at h1
    exact List.mem_filterMap.2 ⟨nm, h1, h2⟩
   have HSC : Hid (∀ nm ∈ L, ∀ k, plO ns nm = some k → k ∈ scP S.P (plO ns) at_) := Lib.hid fun nm h1 k h2 => mem_sc.2 ⟨nm, by rw [hL]; exact h1, h2⟩
   have HUN : Hid (unm n (fun j => !(U j && !decide (j = at_))) < m) := Lib.hid (by
    rw [← hmm]
    have h1 : (fun j => !(U j && !decide (j = at_))) = (fun j => (!U j) || decide (j = at_)) := by
     funext j; cases U j <;> cases decide (j = at_) <;> rfl
    rw [h1]
    exact unm_mark hat (by rw [hua]; rfl))
   have HW := Lib.hid hw
   have IH := Lib.hid ih
   have H0 : Hid (∀ W', VMap W' M k0 (fU S ns (fun v => U v && !decide (v = at_))) → W.grownBy W' (some M) → w0.grownBy W' (some M) ∧ VMap W' M k0 (fU S ns (fun v => U v && !decide (v = at_))) ∧ SoughtTo (scP S.P (plO ns)) ((L.take 0).filterMap (plO ns)) at_ to U (fun v => U v && !decide (v = at_))) := Lib.hid fun W' h1 h2 => ⟨hw.trans h2, h1, SoughtTo.start _ _ _⟩
   clear ih hmm hw hv hfa hua hL hz hx hc ht hval hpl hlz
   obtain ⟨NA, hNA⟩ : ∃ NA, ns[at_]'(by omega) = NA := ⟨_, rfl⟩
   obtain ⟨NT, hNT⟩ : ∃ NT, ns[to]'(by omega) = NT := ⟨_, rfl⟩
   have HNTT := Lib.hid hNT
   rw [hNA, hNT]
   rw [hNA] at hg HDR hsx
   clear hNA hza
   go_enter Tryz.func77, Tryz.ntmps77
   go_wp2_with (first
    | (at_lookup; refine wpList_look_v rfl _ _ 142 149 rfl Tryz.underlying142 _ (zeroS _) rfl _ rfl HV.out hsx _ hg ?_)
    | (at_delete; refine wpList_drop_v rfl _ _ 142 149 rfl Tryz.underlying142 rfl _ rfl HV.out hsx ?_; intro w1 hm1 hg1; have H1 := Lib.hid (H0.out w1 (HDR.out w1 hm1) hg1); clear hm1 hg1)
    | fail)
   clear H0 HDR HV hg
   go_loopw [18] (fun i wr => ∃ (q : Nat) (U1 : Nat → Bool), i = .int .i64 q ∧ q ≤ z ∧ Hid (w0.grownBy wr (some M) ∧ VMap wr M k0 (fU S ns U1) ∧ SoughtTo (scP S.P (plO ns)) ((L.take q).filterMap (plO ns)) at_ to U U1) ∧ Hid (∀ j, U1 j = true → (U j && !decide (j = at_)) = true)) (fun i _ => z - (intOf i).toNat)
   case atStart => exact ⟨0, _, rfl, by omega, H1, Lib.hid fun j h => h⟩
   case round =>
    clear H1
    obtain ⟨q, U1, rfl, hq, HR, HL1⟩ := hrel
    by_cases hlt : q < z
    ·have q1 : (0 : Int) ≤ q := by omega
     have q2 : (q : Int) < z := by omega
     have hql : q < L.length := by rw [HZ.out]; exact hlt
     obtain ⟨b, off, hb, hbl, hc⟩ := (HX.out wr HR.out.1) q (by rw [List.length_map]; exact hql)
     rw [List.getElem_map] at hc
     obtain ⟨k, hk, hkn⟩ := HP.out _ (List.getElem_mem hql)
     have hsc := HSC.out _ (List.getElem_mem hql) k hk
     have htk := take_filt (plO ns) L q hql hk
     rw [HNA.out k hkn _ hk] at hc
     have HTK := Lib.hid htk
     clear htk hk hql
     subst hb
     by_cases hkt : k = to
     ·subst hkt
      rw [HNTT.out] at hc
      have HF : Hid (LdRes S ns w0 M k0 at_ k U (.returned (.bool true)) wr) := Lib.hid ⟨true, U1, rfl, HR.out.1, HR.out.2.1, fun v h => by
       have := HL1.out v h
       simp only [Bool.and_eq_true] at this
       exact this.1, fun _ => .one hsc, fun h => by cases h⟩
      clear HR HL1 HX HP HALL HSC HUN HW IH HNA HNT HTK HNTT hsc
      go_wp2
      go_ret
      exact HF.out
     ·have qn := HNT.out k hkn hkt
      have HC : Hid (Calls Tryz.prog 77 #[.string (ns[k]'(by omega)), .string (ns[to]'(by omega)), .map (some M)] wr (LdRes S ns w0 M k0 k to U1)) := Lib.hid (IH.out _ (by
       refine Nat.lt_of_le_of_lt (unm_less fun j hj => ?_) HUN.out
       cases h1 : U1 j with
       | false => rfl
       | true => rw [HL1.out j h1] at hj; cases hj) k U1 wr rfl HR.out.1 HR.out.2.1 hkn)
      rw [HNTT.out] at qn HC
      generalize ns[k]'(by omega) = NK at *
      have HMR : Hid (∀ w', LdRes S ns w0 M k0 k to U1 (.returned (.bool true)) w' → LdRes S ns w0 M k0 at_ to U (.returned (.bool true)) w') := Lib.hid fun w' h => by
       obtain ⟨r, U2, he, h1, h2, h3, h4, _⟩ := h
       injection he with he
       injection he with he
       subst he
       exact ⟨true, U2, rfl, h1, h2, fun v h => by
        have := HL1.out v (h3 v h)
        simp only [Bool.and_eq_true] at this
        exact this.1, fun _ => .more hsc (h4 rfl), fun h => by cases h⟩
      have HMF : Hid (∀ w' U2, w0.grownBy w' (some M) → VMap w' M k0 (fU S ns U2) → (∀ v, U2 v = true → U1 v = true) → Sought (scP S.P (plO ns)) k to U1 U2 → (w0.grownBy w' (some M) ∧ VMap w' M k0 (fU S ns U2) ∧ SoughtTo (scP S.P (plO ns)) ((L.take (q + 1)).filterMap (plO ns)) at_ to U U2) ∧ (∀ j, U2 j = true → (U j && !decide (j = at_)) = true)) := Lib.hid fun w' U2 h1 h2 h3 h4 =>
       ⟨⟨h1, h2, by rw [HTK.out]; exact HR.out.2.2.more hkt h4⟩, fun j hj => HL1.out j (h3 j hj)⟩
      clear HR HL1 HX HP HALL HSC HUN HW IH HNA HNT HTK HNTT hsc hkt
      go_wp2_with fail
      refine HC.out.mono ?_
      rintro e w2 ⟨r, U2, rfl, h1, h2, h3, h4, h5⟩
      cases r with
      | true =>
       have HF := Lib.hid (HMR.out w2 ⟨true, U2, rfl, h1, h2, h3, h4, h5⟩)
       clear h1 h2 h3 h4 h5 HMF HMR HC
       go_wp2
       go_ret
       exact HF.out
      | false =>
       have HF := Lib.hid (HMF.out w2 U2 h1 h2 h3 (h5 rfl))
       clear h1 h2 h3 h4 h5 HMF HMR HC
       go_wp2
       go_roundw
       case rel => exact ⟨q + 1, U2, by go_num, by omega, Lib.hid HF.out.1, Lib.hid HF.out.2⟩
       case measure => simp [intOf]; omega
    ·obtain rfl : q = z := by omega
     have q2 : ¬ (q : Int) < q := by omega
     have HF : Hid (LdRes S ns w0 M k0 at_ to U (.returned (.bool false)) wr) := Lib.hid ⟨false, U1, rfl, HR.out.1, HR.out.2.1, fun v h => by
       have := HL1.out v h
       simp only [Bool.and_eq_true] at this
       exact this.1, fun h => (by cases h), fun _ => HR.out.2.2.all fun k hk => by
       rw [List.take_of_length_le (by rw [HZ.out]; exact Nat.le_refl _)]
       exact HALL.out k hk⟩
     clear HR HL1 HX HP HALL HSC HUN HW IH HNA HNT HNTT
     go_wp2
     go_ret
     exact HF.out
end Go.Proofs.YtopghlnoklajkaaGreatDoor

namespace Go.Proofs.YtopghlnoklajkaaGreatDoor
open Go.ChangeShapes Go.WideShapes Go.ChangeAt Go.RowKit

def fK (ns : List ByteArray) (D : Nat → Bool) (Kx : Nat → List UInt8 × Bool) (k : List UInt8) : Option Value := match plO ns k with | some i => if D i = true then some (exV (Kx i)) else none | none => none
theorem fK_get (ns : List ByteArray) (D : Nat → Bool) (Kx : Nat → List UInt8 × Bool) (k : List UInt8) : (fK ns D Kx k).getD (exV ([], false)) = exV (kOf (plO ns) D Kx k) := by
 unfold fK kOf
 cases plO ns k with
 | none => rfl
 | some i =>
  simp only
  by_cases e : D i = true
  ·rw [if_pos e, if_pos e]; rfl
  ·rw [if_neg e, if_neg e]; rfl
theorem fK_put {ns : List ByteArray} (hd : Dis ns) {i : Nat} (hi : i < ns.length) (D : Nat → Bool) (Kx : Nat → List UInt8 × Bool) (R : List UInt8 × Bool) (k : List UInt8) : updF (fK ns D Kx) ns[i].data.toList (some (exV R)) k = fK ns (fun j => D j || decide (j = i)) (fun j => if j = i then R else Kx j) k := by
 unfold updF
 by_cases e : k = ns[i].data.toList
 ·rw [if_pos e, e]
  unfold fK
  rw [pl_self hd hi]
  simp
 ·rw [if_neg e]
  unfold fK
  cases hk : plO ns k with
  | none => rfl
  | some j =>
   have hne : j ≠ i := fun h => e (by obtain ⟨_, h2⟩ := pl_is hk; subst h; exact h2.symm)
   simp [hne]
theorem resK_len (K : List UInt8 → List UInt8 × Bool) (l : List PcB) : (resK K l).1.length ≤ 200 := by
 unfold resK
 split
 ·simp
 ·rename_i h
  simp only [Bool.or_eq_true, decide_eq_true_eq, not_or] at h
  simp only; omega
theorem kOf_len {P : Nat → List PcB} {pl : List UInt8 → Option Nat} {D : Nat → Bool} {Kx : Nat → List UInt8 × Bool} (h : Known P pl D Kx) (k : List UInt8) : (kOf pl D Kx k).1.length ≤ 200 := by
 unfold kOf
 cases pl k with
 | none => simp
 | some i =>
  simp only
  by_cases e : D i = true
  ·rw [if_pos e, h.is i e]; exact resK_len _ _
  ·rw [if_neg e]; simp
/-! How many are left, as the world has it -/
theorem VMap.det {w : World} {M n n' : Nat} {f g : List UInt8 → Option Value} (h : VMap w M n f) (h2 : VMap w M n' g) : f = g := by
 obtain ⟨D, ⟨es, clock, hb, _, _, hD⟩, h3⟩ := h
 obtain ⟨D', ⟨es', clock', hb', _, _, hD'⟩, h3'⟩ := h2
 rw [hb] at hb'
 injection hb' with hb'
 injection hb' with h4 _
 subst h4
 rw [← hD] at hD'
 subst hD'
 funext k
 obtain ⟨a1, a2⟩ := h3 k
 obtain ⟨b1, b2⟩ := h3' k
 cases hf : f k with
 | none =>
  rw [hf] at a1
  rw [a1] at b1
  cases hg : g k with
  | none => rfl
  | some v => rw [hg] at b1; cases b1
 | some v =>
  rw [hf] at a1
  rw [a1] at b1
  cases hg : g k with
  | none => rw [hg] at b1; cases b1
  | some u =>
   have e1 := a2 v hf .nil
   have e2 := b2 u hg .nil
   rw [e1] at e2
   rw [DataW.held.inj e2]
open Classical in
noncomputable def leftM (ns : List ByteArray) (M k0 : Nat) (w : World) : Nat := if h : ∃ f, VMap w M k0 f then unm ns.length (fun j => !(h.choose (ns.getD j ⟨#[]⟩).data.toList).isSome) else 0
theorem unm_same {n : Nat} {V V' : Nat → Bool} (h : ∀ j, j < n → V j = V' j) : unm n V = unm n V' := by
 unfold unm
 congr 1
 apply List.filter_congr
 intro j hj
 rw [h j (List.mem_range.1 hj)]
theorem left_is {S : Spk} {ns : List ByteArray} (hd : Dis ns) {M k0 : Nat} {w : World} {D : Nat → Bool} (h : VMap w M k0 (fU S ns (fun j => !D j))) : leftM ns M k0 w = unm ns.length D := by
 unfold leftM
 have he : ∃ f, VMap w M k0 f := ⟨_, h⟩
 rw [dif_pos he]
 have hf := he.choose_spec.det h
 refine unm_same fun j hj => ?_
 rw [hf, List.getD_eq_getElem?_getD, List.getElem?_eq_getElem hj]
 show (!(fU S ns (fun j => !D j) ns[j].data.toList).isSome) = D j
 rw [fU_at S hd hj]
 cases D j <;> rfl
structure XuInv (S : Spk) (ns : List ByteArray) (w : World) (M k0 : Nat) (wr : World) (D : Nat → Bool) (Kx : Nat → List UInt8 × Bool) (k1 : Nat) : Prop where
 gr : w.grownBy wr (some M)
 um : VMap wr M k0 (fU S ns (fun j => !D j))
 kn : VMap wr w.heap.size k1 (fK ns D Kx)
 ok : Known S.P (plO ns) D Kx
 few : k1 + unm ns.length D ≤ ns.length
section
variable {S : Spk} {ns : List ByteArray} {w wr w' : World} {M k0 k1 : Nat} {D : Nat → Bool} {Kx : Nat → List UInt8 × Bool}
theorem XuInv.after (h : XuInv S ns w M k0 wr D Kx k1) (hb : Below wr.heap.size wr w') : XuInv S ns w M k0 w' D Kx k1 :=
 ⟨h.gr.trans ⟨hb.os, hb.tape, hb.output, hb.size, fun k hk _ => hb.block k hk⟩, h.um.below hb, h.kn.below hb, h.ok, h.few⟩
theorem XuInv.left (h : XuInv S ns w M k0 wr D Kx k1) (hd : Dis ns) : leftM ns M k0 wr = unm ns.length D := left_is hd h.um
theorem XuInv.more (h : XuInv S ns w M k0 wr D Kx k1) (hM : M < w.heap.size) (hd : Dis ns) {i : Nat} (hi : i < ns.length) (hD : D i = false) (hs : ∀ k ∈ scP S.P (plO ns) i, D k = true) {w3 w4 : World}
  (h3 : VMap w3 w.heap.size (k1 + 1) (updF (fK ns D Kx) ns[i].data.toList (some (exV (resK (kOf (plO ns) D Kx) (S.P i)))))) (hg3 : wr.grownBy w3 (some w.heap.size))
  (h4 : VMap w4 M k0 (updF (fU S ns (fun j => !D j)) ns[i].data.toList none)) (hg4 : w3.grownBy w4 (some M)) :
  XuInv S ns w M k0 w4 (fun j => D j || decide (j = i)) (fun j => if j = i then resK (kOf (plO ns) D Kx) (S.P i) else Kx j) (k1 + 1) ∧ leftM ns M k0 w4 < leftM ns M k0 wr := by
 have hK := h.kn.lt
 have hgr : w.grownBy w4 (some M) := by
  have h1 : w.grownBy w3 (some M) := ⟨hg3.os.trans h.gr.os, hg3.tape.trans h.gr.tape, hg3.output.trans h.gr.output, Nat.le_trans h.gr.size hg3.size, fun k hk hn => (hg3.block k (Nat.lt_of_lt_of_le hk h.gr.size) (fun e => by injection e with e; omega)).trans (h.gr.block k hk hn)⟩
  exact h1.trans hg4
 have hum : VMap w4 M k0 (fU S ns (fun j => !(D j || decide (j = i)))) := by
  refine h4.ext fun k => ?_
  rw [fU_drop S hd hi]
  congr 1
  funext j
  cases D j <;> cases decide (j = i) <;> rfl
 have hless := unm_mark hi hD
 refine ⟨⟨hgr, hum, ?_, h.ok.more hD hs, ?_⟩, ?_⟩
 ·refine (h3.same (hg4.block _ h3.lt (fun e => by injection e with e; omega))).ext fun k => fK_put hd hi D Kx _ k
 ·have := h.few; omega
 ·rw [left_is hd hum, left_is hd h.um]
  exact hless
theorem XuInv.start (M k0 : Nat) (hv : VMap w M k0 (fU S ns (fun _ => true))) : XuInv S ns w M k0 (w.alloc (.map #[] 0)) (fun _ => false) (fun _ => ([], false)) 0 := by
 refine ⟨World.grownBy_alloc w _ _, (hv.below (below_one w _)).ext fun k => rfl, (VMap.made w).ext fun k => ?_, Known.none_ _, ?_⟩
 ·unfold fK
  cases plO ns k <;> simp
 ·unfold unm
  have := List.length_filter_le (fun k => !((fun _ => false) k : Bool)) (List.range ns.length)
  simp at this ⊢
  exact this
end
def oneIf : Value → Nat
 | .bool true => 1
 | _ => 0
def XuRes (S : Spk) (ns : List ByteArray) (w : World) (M k0 : Nat) (e : Ending) (w' : World) : Prop :=
 ∃ D Kx k1, e = .returned (.map (some w.heap.size)) ∧ XuInv S ns w M k0 w' D Kx k1 ∧ ∀ i, i < ns.length → D i = false → ∃ k ∈ scP S.P (plO ns) i, D k = false
set_option maxHeartbeats 6400000 in
set_option maxRecDepth 100000 in
theorem under_any (B : Nat) (lv : Value) (ms : List SetM) (S : Spk) (n : Nat) (w : World) (M k0 : Nat) (hall : SetsAt B w lv ms) (hn : ms.length = n) (hd : Dis (namesM ms)) (hne : plO (namesM ms) [] = none) (hsz : ∀ s ∈ namesM ms, s.size ≤ 4294967280)
  (hv : VMap w M k0 (fU S (namesM ms) (fun _ => true))) (hS : SpkAt w S n) (hpl : ∀ i, i < n → ∀ nm ∈ namesL (S.P i), ∃ k, plO (namesM ms) nm = some k ∧ k < n) (hlz : ∀ i, i < n → (namesL (S.P i)).length ≤ 4294967290) (hnz : ∀ i, i < n → ∀ nm ∈ namesL (S.P i), nm.length ≤ 4294967280)
  (hpc : ∀ i, i < n → piecesB (S.T i) = some (S.P i)) (htz : ∀ i, i < n → (S.T i).length ≤ 4294967280) (hn2 : n ≤ 1000000) (HST : Hid (∀ W, w.grownBy W (some M) → MaxI W ∧ Tab W)) :
  Calls Tryz.prog 76 #[lv, .map (some M)] w (XuRes S (namesM ms) w M k0) := by
 have hM : M < w.heap.size := hv.lt
 have HALL : Hid (∀ W, w.grownBy W (some M) → SetsAt B W lv ms) := Lib.hid fun W hW => ⟨rowMap hall.row hv hW, fun m hm => by
  obtain ⟨h1, h2, h3⟩ := hall.wds m hm
  exact ⟨h1.map hv hW, h2, h3⟩⟩
 have HSP : Hid (∀ W, w.grownBy W (some M) → SpkAt W S n) := Lib.hid fun W hW => hS.map hv hW
 have hnl : (namesM ms).length = n := by unfold namesM; rw [List.length_map]; exact hn
 have HNL := Lib.hid hnl
 have HN := Lib.hid hn
 have HD := Lib.hid hd
 have HPL := Lib.hid hpl
 have HZ := Lib.hid (And.intro hlz (And.intro hnz (And.intro hpc (And.intro htz (And.intro hsz hne)))))
 have H0 : Hid (XuInv S (namesM ms) w M k0 (w.alloc (.map #[] 0)) (fun _ => false) (fun _ => ([], false)) 0) := Lib.hid (XuInv.start M k0 hv)
 obtain ⟨x0, c0', hlv⟩ := hall.form
 rw [hn] at hlv
 subst hlv
 have hmm := @run_makeMap Tryz.prog
 clear hall hv hS hpl hlz hnz hpc htz hn hd hsz hne hnl
 go_enter Tryz.func76, Tryz.ntmps76
 go_wp2
 clear hmm
 go_loopw [6] (fun mv wr => ∃ (mo : Bool) (D : Nat → Bool) (Kx : Nat → List UInt8 × Bool) (k1 : Nat), mv = .bool mo ∧ Hid (XuInv S (namesM ms) w M k0 wr D Kx k1) ∧ Hid (mo = false → ∀ i, i < n → D i = false → ∃ k ∈ scP S.P (plO (namesM ms)) i, D k = false)) (fun mv wr => 2 * leftM (namesM ms) M k0 wr + oneIf mv)
 case atStart => exact ⟨true, _, _, 0, rfl, H0, Lib.hid fun h => by cases h⟩
 case round =>
  clear H0
  obtain ⟨mo, D, Kx, k1, rfl, HI, HW⟩ := hrel
  cases mo with
  | false =>
   have HE : Hid (XuRes S (namesM ms) w M k0 (.returned (.map (some w.heap.size))) wr) := Lib.hid ⟨D, Kx, k1, rfl, HI.out, by rw [HNL.out]; exact HW.out rfl⟩
   clear HW HI HALL HSP HD HPL HZ HST
   go_wp2
   go_ret
   exact HE.out
  | true =>
   clear HW
   obtain ⟨wo, hwo⟩ : ∃ wo, wo = wr := ⟨_, rfl⟩
   subst hwo
   have HL0 : Hid (leftM (namesM ms) M k0 wo ≤ leftM (namesM ms) M k0 wo) := Lib.hid (Nat.le_refl _)
   go_wp2
   go_loopw [6, 15] (fun mv i wr => ∃ (mo : Bool) (q : Nat) (D : Nat → Bool) (Kx : Nat → List UInt8 × Bool) (k1 : Nat), mv = .bool mo ∧ i = .int .i64 q ∧ q ≤ n ∧ Hid (XuInv S (namesM ms) w M k0 wr D Kx k1) ∧ Hid (leftM (namesM ms) M k0 wr ≤ leftM (namesM ms) M k0 wo ∧ (mo = true → leftM (namesM ms) M k0 wr < leftM (namesM ms) M k0 wo) ∧ (mo = false → ∀ i, i < q → D i = false → ∃ k ∈ scP S.P (plO (namesM ms)) i, D k = false))) (fun _ i _ => n - (intOf i).toNat)
   case atStart => exact ⟨false, 0, D, Kx, k1, rfl, rfl, by omega, HI, Lib.hid ⟨Nat.le_refl _, fun h => (by cases h), fun _ i hi => by omega⟩⟩
   case round =>
    clear HI HL0
    obtain ⟨mo, q, D, Kx, k1, rfl, rfl, hq, HI, HL⟩ := hrel
    by_cases hlt : q < n
    ·have q1 : (0 : Int) ≤ q := by omega
     have q2 : (q : Int) < n := by omega
     have hkm : q < ms.length := by rw [HN.out]; exact hlt
     have hkn : q < (namesM ms).length := by rw [HNL.out]; exact hlt
     obtain ⟨b, c, hbe, _, hcs⟩ := (HALL.out wr HI.out.gr).cells hkm
     injection hbe with hbe hx1 hx2
     have e0 := hcs 0 (by decide)
     have e1 := hcs 1 (by decide)
     have e2 := hcs 2 (by decide)
     have e3 := hcs 3 (by decide)
     have e4 := hcs 4 (by decide)
     have e5 := hcs 5 (by decide)
     rw [Nat.add_zero] at e0
     have hnm : (namesM ms)[q] = ms[q].x.name := by simp [namesM]
     have hfa := fU_at S HD.out hkn (fun j => !D j)
     have hsx := HZ.out.2.2.2.2.1 _ (List.getElem_mem hkn)
     have HMO : Hid (∀ {w3 w4 : World}, VMap w3 w.heap.size (k1 + 1) (updF (fK (namesM ms) D Kx) (namesM ms)[q].data.toList (some (exV (resK (kOf (plO (namesM ms)) D Kx) (S.P q))))) → wr.grownBy w3 (some w.heap.size) → True) := Lib.hid fun _ _ => trivial
     rw [hnm] at hfa hsx
     generalize hmq : ms[q] = m at *
     obtain ⟨⟨nm, ⟨kd, it, tx, ws⟩, fr⟩, a, mc⟩ := m
     simp only [sCells, List.getElem?_cons_zero, List.getElem?_cons_succ] at e0 e1 e2 e3 e4 e5 hfa hsx hnm
     have hnz : nm.size ≤ maxLen := by unfold maxLen; omega
     subst hbe
     clear hcs hx1 hx2 HMO
     cases hDq : D q with
     | true =>
      rw [hDq] at hfa
      have hg1 : (fU S (namesM ms) (fun j => !D j) nm.data.toList).getD (spV ⟨#[]⟩ none 0 0) = .agg #[.string ⟨#[]⟩, .slice none 0 0] := by rw [hfa]; rfl
      have hg2 : (fU S (namesM ms) (fun j => !D j) nm.data.toList).isSome = false := by rw [hfa]; rfl
      have HLE : Hid (∀ w', XuInv S (namesM ms) w M k0 w' D Kx k1 → leftM (namesM ms) M k0 w' ≤ leftM (namesM ms) M k0 wo ∧ (mo = true → leftM (namesM ms) M k0 w' < leftM (namesM ms) M k0 wo) ∧ (mo = false → ∀ i, i < q + 1 → D i = false → ∃ k ∈ scP S.P (plO (namesM ms)) i, D k = false)) := Lib.hid fun w' h => by
       rw [h.left HD.out, ← HI.out.left HD.out]
       refine ⟨HL.out.1, HL.out.2.1, fun hm i hi hdi => ?_⟩
       by_cases e : i = q
       ·subst e; rw [hDq] at hdi; cases hdi
       ·exact HL.out.2.2 hm i (by omega) hdi
      have HUM : Hid (∀ o, VMap (wr.alloc o) M k0 (fU S (namesM ms) (fun j => !D j))) := Lib.hid fun o => HI.out.um.below (below_one wr o)
      clear hfa HL HALL HSP HPL HZ HST hmq
      go_wp2_with (at_lookup; refine wpList_look_ok_v rfl _ _ 142 149 rfl Tryz.underlying142 _ (zeroS _) rfl _ rfl (HUM.out _) hnz _ hg1 _ hg2 ?_)
      have HI2 := Lib.hid ((HI.out.after (below_one wr (Obj.cells #[.string nm, .int .i64 kd, .int .i64 it, .string tx, .slice a ws.length mc, .int .i64 fr] 50))).after (below_one _ (Obj.cells #[.string ⟨#[]⟩, .slice none 0 0] 149)))
      go_roundw
      case rel => exact ⟨mo, q + 1, D, Kx, k1, rfl, by go_num, by omega, HI2, Lib.hid (HLE.out _ HI2.out)⟩
      case measure => simp [intOf]; omega
     | false =>
      rw [hDq] at hfa
      obtain ⟨L, hL⟩ : ∃ L, namesL (S.P q) = L := ⟨_, rfl⟩
      obtain ⟨z, hz⟩ : ∃ z, L.length = z := ⟨_, rfl⟩
      obtain ⟨x, hx⟩ : ∃ x, S.X q = x := ⟨_, rfl⟩
      obtain ⟨cc, hc⟩ : ∃ c, S.C q = c := ⟨_, rfl⟩
      obtain ⟨tb, ht⟩ : ∃ t, mkB (S.T q) = t := ⟨_, rfl⟩
      have hval : S.val q = .agg #[.string tb, .slice x z cc] := by unfold Spk.val spV; rw [hL, hz, hx, hc, ht]
      have hg1 : (fU S (namesM ms) (fun j => !D j) nm.data.toList).getD (spV ⟨#[]⟩ none 0 0) = .agg #[.string tb, .slice x z cc] := by rw [hfa, ← hval]; rfl
      have hg2 : (fU S (namesM ms) (fun j => !D j) nm.data.toList).isSome = true := by rw [hfa]; rfl
      obtain ⟨wb, hwb⟩ : ∃ wb, anyU (fU S (namesM ms) (fun j => !D j)) L = wb := ⟨_, rfl⟩
      have HWT : Hid (∀ W, XuInv S (namesM ms) w M k0 W D Kx k1 → Calls Tryz.prog 108 #[.agg #[.string tb, .slice x z cc], .map (some M)] W fun e w' => e = .returned (.bool wb) ∧ Below W.heap.size W w') := Lib.hid fun W hW => by
       have h1 := ((HSP.out W hW.gr) q hlt).1
       rw [hx, hL] at h1
       have := waits_any tb x cc L M k0 _ W h1 hW.um (by rw [← hL]; exact HZ.out.1 q hlt) (by rw [← hL]; exact HZ.out.2.1 q hlt) (fun k => fU_val S (namesM ms) _ k)
       rw [hwb, hz] at this
       exact this
      have HI2 : Hid (∀ o1 o2, XuInv S (namesM ms) w M k0 ((wr.alloc o1).alloc o2) D Kx k1) := Lib.hid fun o1 o2 => (HI.out.after (below_one wr o1)).after (below_one _ o2)
      have HUM : Hid (∀ o, VMap (wr.alloc o) M k0 (fU S (namesM ms) (fun j => !D j))) := Lib.hid fun o => HI.out.um.below (below_one wr o)
      cases wb with
      | true =>
       have HWI : Hid (∃ k ∈ scP S.P (plO (namesM ms)) q, D k = false) := Lib.hid (by
        unfold anyU at hwb
        obtain ⟨n1, h1, h2⟩ := List.any_eq_true.1 hwb
        unfold fU at h2
        cases hk : plO (namesM ms) n1 with
        | none => rw [hk] at h2; cases h2
        | some k =>
         rw [hk] at h2
         refine ⟨k, mem_sc.2 ⟨n1, by rw [hL]; exact h1, hk⟩, ?_⟩
         cases hdk : D k with
         | false => rfl
         | true => simp [hdk] at h2)
       have HLE : Hid (∀ w', XuInv S (namesM ms) w M k0 w' D Kx k1 → leftM (namesM ms) M k0 w' ≤ leftM (namesM ms) M k0 wo ∧ (mo = true → leftM (namesM ms) M k0 w' < leftM (namesM ms) M k0 wo) ∧ (mo = false → ∀ i, i < q + 1 → D i = false → ∃ k ∈ scP S.P (plO (namesM ms)) i, D k = false)) := Lib.hid fun w' h => by
        rw [h.left HD.out, ← HI.out.left HD.out]
        refine ⟨HL.out.1, HL.out.2.1, fun hm i hi hdi => ?_⟩
        by_cases e : i = q
        ·subst e; exact HWI.out
        ·exact HL.out.2.2 hm i (by omega) hdi
       clear hfa HL HALL HSP HPL HZ HST hmq hwb hval hL hz hx hc ht HWI HI
       go_wp2_with (first
        | (at_lookup; refine wpList_look_ok_v rfl _ _ 142 149 rfl Tryz.underlying142 _ (zeroS _) rfl _ rfl (HUM.out _) hnz _ hg1 _ hg2 ?_)
        | fail)
       refine (HWT.out _ (HI2.out _ _)).mono ?_
       rintro e w4 ⟨rfl, hb4⟩
       have HI4 := Lib.hid ((HI2.out _ _).after hb4)
       clear hb4
       go_wp2
       go_roundw
       case rel => exact ⟨mo, q + 1, D, Kx, k1, rfl, by go_num, by omega, HI4, Lib.hid (HLE.out _ HI4.out)⟩
       case measure => simp [intOf]; omega
      | false =>
       have hsd : ∀ k ∈ scP S.P (plO (namesM ms)) q, D k = true := fun k hk => by
        obtain ⟨n1, h1, h2⟩ := mem_sc.1 hk
        rw [hL] at h1
        unfold anyU at hwb
        have h3 := List.any_eq_false.1 hwb n1 h1
        unfold fU at h3
        rw [h2] at h3
        cases hdk : D k with
        | true => rfl
        | false => simp [hdk] at h3
       obtain ⟨⟨kt, kb⟩, hkr⟩ : ∃ r, resK (kOf (plO (namesM ms)) D Kx) (S.P q) = r := ⟨_, rfl⟩
       have HEX : Hid (∀ W, XuInv S (namesM ms) w M k0 W D Kx k1 → Calls Tryz.prog 109 #[.string tb, .map (some w.heap.size)] W fun e w' => e = .returned (.agg #[.string (mkB kt), .bool kb]) ∧ Below W.heap.size W w') := Lib.hid fun W hW => by
        have := rexp_any (kOf (plO (namesM ms)) D Kx) tb (S.P q) (by rw [← ht, mkB_list]; exact HZ.out.2.2.1 q hlt) w.heap.size k1 _ W hW.kn (fun k => fK_get _ _ _ k) (by unfold kOf; rw [HZ.out.2.2.2.2.2]) (fun k => Nat.le_trans (kOf_len hW.ok k) (by decide)) (by rw [← ht, mkB_sz]; exact HZ.out.2.2.2.1 q hlt) (HST.out W hW.gr).1 (HST.out W hW.gr).2
        rw [hkr] at this
        exact this
       have hKw := HI.out.kn.lt
       have hfew := HI.out.few
       rw [HNL.out] at hfew
       have HPUT : Hid (∀ W, XuInv S (namesM ms) w M k0 W D Kx k1 → ∃ w', (Instr.mapUpdate 89 (.map (some w.heap.size)) (.string nm) (.agg #[.string (mkB kt), .bool kb])).run Tryz.prog W = .ok () w' ∧ VMap w' w.heap.size (k1 + 1) (updF (fK (namesM ms) D Kx) nm.data.toList (some (exV (kt, kb)))) ∧ VMap w' M k0 (fU S (namesM ms) (fun j => !D j)) ∧ W.grownBy w' (some w.heap.size)) := Lib.hid fun W hW => by
        obtain ⟨w', h1, h2, h3⟩ := hW.kn.put (t := 89) Tryz.underlying89 (by unfold maxLen; omega) nm hnz (.agg #[.string (mkB kt), .bool kb])
        exact ⟨w', h1, h2, hW.um.same (h3.block M hW.um.lt (fun e => by injection e with e; omega)), h3⟩
       have HMO : Hid (∀ W w3 w4, XuInv S (namesM ms) w M k0 W D Kx k1 → VMap w3 w.heap.size (k1 + 1) (updF (fK (namesM ms) D Kx) nm.data.toList (some (exV (kt, kb)))) → W.grownBy w3 (some w.heap.size) → VMap w4 M k0 (updF (fU S (namesM ms) (fun j => !D j)) nm.data.toList none) → w3.grownBy w4 (some M) →
         XuInv S (namesM ms) w M k0 w4 (fun j => D j || decide (j = q)) (fun j => if j = q then resK (kOf (plO (namesM ms)) D Kx) (S.P q) else Kx j) (k1 + 1) ∧ leftM (namesM ms) M k0 w4 < leftM (namesM ms) M k0 wo) := Lib.hid fun W w3 w4 h1 h2 h3 h4 h5 => by
        rw [← hkr, ← hnm] at h2
        rw [← hnm] at h4
        obtain ⟨a, b⟩ := h1.more hM HD.out hkn hDq hsd h2 h3 h4 h5
        refine ⟨a, Nat.lt_of_lt_of_le b ?_⟩
        rw [h1.left HD.out, ← HI.out.left HD.out]
        exact HL.out.1
       clear hfa HL HALL HSP HPL HZ HST hmq hwb hval hL hz hx hc ht HI hsd hkr hfew
       go_wp2_with (first
        | (at_lookup; refine wpList_look_ok_v rfl _ _ 142 149 rfl Tryz.underlying142 _ (zeroS _) rfl _ rfl (HUM.out _) hnz _ hg1 _ hg2 ?_)
        | fail)
       refine (HWT.out _ (HI2.out _ _)).mono ?_
       rintro e w4 ⟨rfl, hb4⟩
       have HI4 := Lib.hid ((HI2.out _ _).after hb4)
       have hKl := HI4.out.kn.lt
       have f0 : w4.drew.cell? ⟨wr.heap.size, 0, none⟩ = some (.string nm) := by show w4.cell? _ = _; rw [hb4.cell (p := ⟨wr.heap.size, 0, none⟩) (by simp; omega)]; simp
       have f1 : w4.drew.cell? ⟨wr.heap.size + 1, 0, none⟩ = some (.string tb) := by show w4.cell? _ = _; rw [hb4.cell (p := ⟨wr.heap.size + 1, 0, none⟩) (by simp)]; simp
       have HI5 : Hid (XuInv S (namesM ms) w M k0 w4.drew D Kx k1) := Lib.hid (HI4.out.after (below_drewN w4 1))
       have HKW : Hid (w.heap.size < wr.heap.size) := Lib.hid hKw
       have HF0 := Lib.hid f0
       clear hb4 hKl
       go_wp2_with fail
       go_region_law (first
        | (go_simp; (with_reducible refine (HEX.out _ HI5.out).mono ?_); rintro e w5 ⟨rfl, hb5⟩; have HI6 := Lib.hid (HI5.out.after hb5); have g0 : w5.cell? ⟨wr.heap.size, 0, none⟩ = some (.string nm) := (hb5.cell (p := ⟨wr.heap.size, 0, none⟩) (lt_of_cell HF0.out)).trans HF0.out; have HL5 := Lib.hid (lt_of_cell g0); clear hb5; obtain ⟨w6, hr6, hm6, hu6, hg6⟩ := HPUT.out _ HI6.out; have HG6 := Lib.hid (And.intro hm6 hg6); have HU6 := Lib.hid hu6; have h0 : w6.cell? ⟨wr.heap.size, 0, none⟩ = some (.string nm) := (cell_blkT (hg6.block _ HL5.out (fun e => by injection e with e; have := HKW.out; omega)) 0).trans g0; clear hm6 hu6 hg6; dsimp only))
       all_goals
        go_wp2_with (first
         | (at_delete; refine wpList_drop_v rfl _ _ 142 149 rfl Tryz.underlying142 rfl _ rfl HU6.out hnz ?_; intro w7 hm7 hg7; have HF := Lib.hid (HMO.out _ _ _ HI6.out HG6.out.1 HG6.out.2 hm7 hg7); clear hm7 hg7)
         | fail)
        go_roundw
        case rel => exact ⟨true, q + 1, _, _, k1 + 1, rfl, by go_num, by omega, Lib.hid HF.out.1, Lib.hid ⟨Nat.le_of_lt HF.out.2, fun _ => HF.out.2, fun h => by cases h⟩⟩
        case measure => simp [intOf]; omega
    ·obtain rfl : q = n := by omega
     have q2 : ¬ (q : Int) < q := by omega
     have HME : Hid (2 * leftM (namesM ms) M k0 wr + oneIf (.bool mo) < 2 * leftM (namesM ms) M k0 wo + oneIf (.bool true)) := Lib.hid (by
      obtain ⟨a, b, _⟩ := HL.out
      cases mo with
      | true => have := b rfl; show 2 * _ + 1 < 2 * _ + 1; omega
      | false => show 2 * _ + 0 < 2 * _ + 1; omega)
     have HWW : Hid (mo = false → ∀ i, i < q → D i = false → ∃ k ∈ scP S.P (plO (namesM ms)) i, D k = false) := Lib.hid HL.out.2.2
     clear HL HALL HSP HD HPL HZ HST
     go_wp2
     go_roundw
     case rel => exact ⟨mo, D, Kx, k1, rfl, HI, HWW⟩
     case measure => exact HME.out
end Go.Proofs.YtopghlnoklajkaaGreatDoor

namespace Go.Proofs.YtopghlnoklajkaaGreatDoor
open Go.ChangeShapes Go.WideShapes Go.ChangeAt Go.RowKit

def Tx (ms : List SetM) (i : Nat) : List UInt8 := match ms[i]? with | some m => (printR m.x.val).1 | none => []
def Px (ms : List SetM) (i : Nat) : List PcB := (piecesB (Tx ms i)).getD []
theorem Tx_at {ms : List SetM} {i : Nat} (hi : i < ms.length) : Tx ms i = (printR ms[i].x.val).1 := by unfold Tx; rw [List.getElem?_eq_getElem hi]
theorem printR_len (v : Val) : (printR v).1.length ≤ 200 := by
 unfold printR
 cases hr : rightV v with
 | true => exact print_len hr
 | false => simp
theorem Tx_len (ms : List SetM) (i : Nat) : (Tx ms i).length ≤ 200 := by
 unfold Tx
 split
 ·exact printR_len _
 ·simp
theorem scanP_names : ∀ (f : Nat) (r b : List UInt8) (l out : List PcB), scanP f r b l = some out → ∀ p ∈ out, p.2 = true → p ∈ l ∨ nameB p.1 = true := by
 intro f
 induction f with
 | zero =>
  intro r b l out h p hp hr
  rw [← Option.some.inj h] at hp
  rcases List.mem_append.1 hp with hp | hp
  ·exact .inl hp
  ·rw [List.mem_singleton.1 hp] at hr; cases hr
 | succ f ih =>
  intro r b l out h p hp hr
  cases r with
  | nil =>
   rw [← Option.some.inj h] at hp
   rcases List.mem_append.1 hp with hp | hp
   ·exact .inl hp
   ·rw [List.mem_singleton.1 hp] at hr; cases hr
  | cons c r =>
   unfold scanP at h
   split at h
   ·cases r with
    | nil => cases h
    | cons d r' =>
     simp only at h
     split at h
     ·exact ih _ _ _ _ h p hp hr
     ·split at h
      ·split at h
       ·rename_i hx
        rcases ih _ _ _ _ h p hp hr with h1 | h1
        ·rcases List.mem_append.1 h1 with h1 | h1
         ·exact .inl h1
         ·rcases List.mem_cons.1 h1 with rfl | h1
          ·cases hr
          ·rw [List.mem_singleton.1 h1]; exact .inr hx.2
        ·exact .inr h1
       ·cases h
      ·cases h
   ·exact ih _ _ _ _ h p hp hr
theorem pieces_names {s : List UInt8} {l : List PcB} (h : piecesB s = some l) {nm : List UInt8} (hn : nm ∈ namesL l) : nameB nm = true := by
 obtain ⟨p, hp, hr, rfl⟩ := (mem_namesL _ _).1 hn
 rcases scanP_names _ _ _ _ _ h p hp hr with h1 | h1
 ·cases h1
 ·exact h1
theorem Px_names (ms : List SetM) (i : Nat) {nm : List UInt8} (hn : nm ∈ namesL (Px ms i)) : nameB nm = true := by
 unfold Px at hn
 cases h : piecesB (Tx ms i) with
 | none => rw [h] at hn; cases hn
 | some l => rw [h] at hn; exact pieces_names h hn
theorem Px_len (ms : List SetM) (i : Nat) : (namesL (Px ms i)).length ≤ 201 := by
 refine Nat.le_trans (namesL_len _) ?_
 unfold Px
 cases h : piecesB (Tx ms i) with
 | none => simp
 | some l =>
  have := pieces_len h
  have := Tx_len ms i
  show l.length ≤ 201
  omega
theorem Px_is {ms : List SetM} {i : Nat} {l : List PcB} (h : piecesB (Tx ms i) = some l) : Px ms i = l := by unfold Px; rw [h]; rfl
theorem fU_more (T : Nat → List UInt8) (P : Nat → List PcB) (X : Nat → Option Addr) (C : Nat → Nat) {ns : List ByteArray} (hd : Dis ns) {q : Nat} (hq : q < ns.length) (x : Option Addr) (c : Nat) (k : List UInt8) :
  updF (fU ⟨T, P, X, C⟩ ns (fun j => decide (j < q))) ns[q].data.toList (some (spV (mkB (T q)) x (namesL (P q)).length c)) k = fU ⟨T, P, fun i => if i = q then x else X i, fun i => if i = q then c else C i⟩ ns (fun j => decide (j < q + 1)) k := by
 unfold updF
 by_cases e : k = ns[q].data.toList
 ·rw [if_pos e, e, fU_at _ hd hq]
  simp [Spk.val]
 ·rw [if_neg e]
  unfold fU
  cases hk : plO ns k with
  | none => rfl
  | some j =>
   have hne : j ≠ q := fun h => e (by obtain ⟨_, h2⟩ := pl_is hk; subst h; exact h2.symm)
   have hlt : decide (j < q) = decide (j < q + 1) := by
    by_cases h : j < q
    ·rw [decide_eq_true h, decide_eq_true (by omega)]
    ·rw [decide_eq_false h, decide_eq_false (by omega)]
   simp only [hlt, Spk.val, hne, if_false]
def SpRes (ms : List SetM) (w : World) (e : Ending) (w' : World) : Prop := Below w.heap.size w w' ∧
 match firstB ms.length (fun i => (piecesB (Tx ms i)).isNone) with
 | some k => e = .returned (.tuple #[.map none, .int .i64 100, .string ((namesM ms).getD k ⟨#[]⟩)])
 | none => match firstB ms.length (fun i => (namesL (Px ms i)).any fun nm => (plO (namesM ms) nm).isNone) with
  | some k => e = .returned (.tuple #[.map none, .int .i64 101, .string ((namesM ms).getD k ⟨#[]⟩)])
  | none => ∃ X C, e = .returned (.tuple #[.map (some w.heap.size), .int .i64 0, .string ⟨#[]⟩]) ∧ VMap w' w.heap.size ms.length (fU ⟨Tx ms, Px ms, X, C⟩ (namesM ms) (fun _ => true)) ∧ SpkAt w' ⟨Tx ms, Px ms, X, C⟩ ms.length
structure SpIn (ms : List SetM) (w wr : World) (q : Nat) (X : Nat → Option Addr) (C : Nat → Nat) : Prop where
 below : Below w.heap.size w wr
 map_ : VMap wr w.heap.size q (fU ⟨Tx ms, Px ms, X, C⟩ (namesM ms) (fun j => decide (j < q)))
 spk : SpkAt wr ⟨Tx ms, Px ms, X, C⟩ q
 ok : ∀ i, i < q → (piecesB (Tx ms i)).isNone = false
section
variable {ms : List SetM} {w wr w' : World} {q : Nat} {X : Nat → Option Addr} {C : Nat → Nat}
theorem SpIn.after (h : SpIn ms w wr q X C) (hb : Below wr.heap.size wr w') : SpIn ms w w' q X C := ⟨h.below.trans (hb.mono h.below.size), h.map_.below hb, h.spk.below hb, h.ok⟩
theorem SpIn.start (ms : List SetM) (w : World) : SpIn ms w (w.alloc (.map #[] 0)) 0 (fun _ => none) (fun _ => 0) := by
 refine ⟨below_one w _, (VMap.made w).ext fun k => ?_, fun i hi => by omega, fun i hi => by omega⟩
 unfold fU
 cases plO (namesM ms) k <;> simp
theorem nm_texts {w : World} {B : Nat} {v : Value} {l : List (List UInt8)} (h : w.ownsRow B 9 1 v l.length (l.map nmS)) : ∃ x c, v = .slice x l.length c ∧ TxAt w x (l.map mkB) ∧ l.length ≤ c := by
 rcases h.2 with ⟨h1, h2⟩ | ⟨g, cap, cur, h1, _, hg, hnc, _⟩
 ·exact ⟨none, 0, by rw [h1, h2], fun k hk => by rw [List.length_map] at hk; omega, by omega⟩
 ·refine ⟨some ⟨g, 0, none⟩, cap, h1, fun k hk => ⟨g, 0, rfl, heap_lt hg, ?_⟩, hnc⟩
  rw [List.length_map] at hk
  have hv := h
  rw [h1] at hv
  rw [Nat.zero_add, hv.cellAt k (by omega), List.getElem?_map, List.getElem?_eq_getElem hk, List.getElem_map]
  rfl
theorem SpIn.more (h : SpIn ms w wr q X C) (hd : Dis (namesM ms)) (hq : q < (namesM ms).length) {x : Option Addr} {c : Nat} (ht : TxAt wr x ((namesL (Px ms q)).map mkB)) (hc : (namesL (Px ms q)).length ≤ c) (hok : (piecesB (Tx ms q)).isNone = false)
  (hm : VMap w' w.heap.size (q + 1) (updF (fU ⟨Tx ms, Px ms, X, C⟩ (namesM ms) (fun j => decide (j < q))) (namesM ms)[q].data.toList (some (spV (mkB (Tx ms q)) x (namesL (Px ms q)).length c)))) (hg : wr.grownBy w' (some w.heap.size)) :
  SpIn ms w w' (q + 1) (fun i => if i = q then x else X i) (fun i => if i = q then c else C i) := by
 refine ⟨h.below.grown hg h.below.size (fun k hk => by injection hk with hk; omega), hm.ext fun k => fU_more _ _ _ _ hd hq _ _ k, fun i hi => ?_, fun i hi => ?_⟩
 ·by_cases e : i = q
  ·subst e
   simp only [if_true]
   exact ⟨ht.map h.map_ hg, hc⟩
  ·simp only [if_neg e]
   exact ⟨(h.spk i (by omega)).1.map h.map_ hg, (h.spk i (by omega)).2⟩
 ·by_cases e : i = q
  ·subst e; exact hok
  ·exact h.ok i (by omega)
end
set_option maxHeartbeats 6400000 in
set_option maxRecDepth 100000 in
theorem speakers_any (B : Nat) (lv : Value) (ms : List SetM) (n : Nat) (w : World) (hall : SetsAt B w lv ms) (hn : ms.length = n) (hd : Dis (namesM ms)) (hsz : ∀ s ∈ namesM ms, s.size ≤ 4294967280) (hr : ∀ m ∈ ms, rightV m.x.val = true) (hn2 : n ≤ 1000000) (hS : Std w) :
  Calls Tryz.prog 75 #[lv] w (SpRes ms w) := by
 have HALL : Hid (∀ W, Below w.heap.size w W → SetsAt B W lv ms) := Lib.hid fun W hW => hall.below hW
 have HPR : Hid (∀ m ∈ ms, ∀ W, Below w.heap.size w W → Calls Tryz.prog 43 #[argV m.x.val m.a m.c] W fun e w' => e = .returned (.tuple #[.string (mkB (printR m.x.val).1), .int .i64 (printR m.x.val).2]) ∧ Below W.heap.size W w') := Lib.hid fun m hm W hW => by
  obtain ⟨h1, h2, _⟩ := hall.wds m hm
  obtain ⟨b1, b2, b3⟩ := right_bounds (hr m hm)
  exact print_any W m.x.val m.a m.c ⟨TxAt.below h1 hW, h2, by omega, fun k hk => by have := b2 k hk; unfold maxLen; omega, by unfold maxLen; omega⟩ (hS.below hW)
 have HNM : Hid (∀ i W, Below w.heap.size w W → Calls Tryz.prog 9 #[.string (mkB (Tx ms i))] W (NmRes W (namesB (Tx ms i)))) := Lib.hid fun i W hW => by
  have hl := Tx_len ms i
  have := rnames_any (mkB (Tx ms i)) W (by rw [mkB_sz]; omega) (hS.maxI.below hW) (hS.tab.below hW)
  rw [mkB_list] at this; exact this
 have hnl : (namesM ms).length = n := by unfold namesM; rw [List.length_map]; exact hn
 have HNL := Lib.hid hnl
 have HN := Lib.hid hn
 have HD := Lib.hid hd
 have HZ := Lib.hid hsz
 have H0 : Hid (SpIn ms w (w.alloc (.map #[] 0)) 0 (fun _ => none) (fun _ => 0)) := Lib.hid (SpIn.start ms w)
 obtain ⟨x0, c0', hlv⟩ := hall.form
 rw [hn] at hlv
 subst hlv
 have hmm := @run_makeMap Tryz.prog
 clear hall hn hd hsz hnl hr hS
 go_enter Tryz.func75, Tryz.ntmps75
 go_wp2
 clear hmm
 go_loopw [21] (fun i wr => ∃ (q : Nat) (X : Nat → Option Addr) (C : Nat → Nat), i = .int .i64 q ∧ q ≤ n ∧ Hid (SpIn ms w wr q X C)) (fun i _ => n - (intOf i).toNat)
 case atStart => exact ⟨0, _, _, rfl, by omega, H0⟩
 case round =>
  clear H0
  obtain ⟨q, X, C, rfl, hq, HI⟩ := hrel
  by_cases hlt : q < n
  ·have q1 : (0 : Int) ≤ q := by omega
   have q2 : (q : Int) < n := by omega
   have hkm : q < ms.length := by rw [HN.out]; exact hlt
   have hkn : q < (namesM ms).length := by rw [HNL.out]; exact hlt
   obtain ⟨b, c, hbe, _, hcs⟩ := (HALL.out wr HI.out.below).cells hkm
   injection hbe with hbe hx1 hx2
   have e0 := hcs 0 (by decide)
   have e1 := hcs 1 (by decide)
   have e2 := hcs 2 (by decide)
   have e3 := hcs 3 (by decide)
   have e4 := hcs 4 (by decide)
   have e5 := hcs 5 (by decide)
   rw [Nat.add_zero] at e0
   have hnm : (namesM ms)[q] = ms[q].x.name := by simp [namesM]
   have hsx := HZ.out _ (List.getElem_mem hkn)
   rw [hnm] at hsx
   have hpr := HPR.out _ (List.getElem_mem hkm)
   have htx := Tx_at hkm
   have hnv := HNM.out q
   generalize hmq : ms[q] = m at *
   obtain ⟨⟨nm, ⟨kd, it, tx, ws⟩, fr⟩, a, mc⟩ := m
   simp only [sCells, List.getElem?_cons_zero, List.getElem?_cons_succ] at e0 e1 e2 e3 e4 e5 hsx hnm hpr htx
   unfold argV at hpr
   simp only at hpr
   obtain ⟨pe, hpe⟩ : ∃ pe, (printR ⟨kd, it, tx, ws⟩).2 = pe := ⟨_, rfl⟩
   rw [← htx, hpe] at hpr
   obtain ⟨T, hT⟩ : ∃ T, Tx ms q = T := ⟨_, rfl⟩
   rw [hT] at hpr hnv
   have HP := Lib.hid hpr
   have HNV := Lib.hid hnv
   have hnz : nm.size ≤ maxLen := by unfold maxLen; omega
   have HB0 : Hid (∀ o, SpIn ms w (wr.alloc o) q X C) := Lib.hid fun o => HI.out.after (below_one wr o)
   have hNN : (namesM ms).getD q ⟨#[]⟩ = nm := by rw [List.getD_eq_getElem?_getD, List.getElem?_eq_getElem hkn]; exact hnm
   subst hbe
   clear hcs hx1 hx2 hpr hnv hpe htx hsx
   cases hpc : piecesB T with
   | none =>
    have hbad : (piecesB (Tx ms q)).isNone = true := by rw [hT, hpc]; rfl
    have HE : Hid (∀ w', Below w.heap.size w w' → SpRes ms w (.returned (.tuple #[.map none, .int .i64 100, .string nm])) w') := Lib.hid fun w' hb => by
     refine ⟨hb, ?_⟩
     rw [firstB_some (fun j hj => HI.out.ok j hj) hkm hbad]
     show Ending.returned _ = Ending.returned _
     rw [hNN]
    have hnb : namesB T = ([], 100) := by unfold namesB; rw [hpc]
    rw [hnb] at HNV
    clear hT hpc hbad hnb hNN hnm hmq HALL HPR HNM HNL HN HD HZ
    generalize mkB T = TB at *
    go_wp2_with fail
    refine (HP.out _ (HB0.out _).below).mono ?_
    rintro e w2 ⟨rfl, hb2⟩
    have HI2 := Lib.hid ((HB0.out _).after hb2)
    have f0 : w2.cell? ⟨wr.heap.size, 0, none⟩ = some (.string nm) := by rw [hb2.cell (p := ⟨wr.heap.size, 0, none⟩) (by simp)]; simp
    clear hb2 HB0 HI
    go_wp2_with fail
    refine (HNV.out _ HI2.out.below).mono ?_
    rintro e w3 ⟨v, rfl, _, hb3⟩
    have HI3 := Lib.hid (HI2.out.after hb3)
    have g0 : w3.drew.cell? ⟨wr.heap.size, 0, none⟩ = some (.string nm) := (hb3.cell (p := ⟨wr.heap.size, 0, none⟩) (lt_of_cell f0)).trans f0
    have HB3 : Hid (Below w.heap.size w w3.drew) := Lib.hid (HI3.out.below.trans ((below_drewN w3 1).mono HI3.out.below.size))
    clear hb3 f0 HI2
    go_wp2
    go_region
    all_goals
     go_wp2
     go_ret3
     exact HE.out _ HB3.out
   | some l =>
    have hok : (piecesB (Tx ms q)).isNone = false := by rw [hT, hpc]; rfl
    have hpx : Px ms q = l := Px_is (by rw [hT]; exact hpc)
    have hnb : namesB T = (namesL l, 0) := by unfold namesB; rw [hpc]
    rw [hnb] at HNV
    obtain ⟨z, hz⟩ : ∃ z, (namesL l).length = z := ⟨_, rfl⟩
    have HZZ := Lib.hid hz
    have hfm : (fU ⟨Tx ms, Px ms, X, C⟩ (namesM ms) (fun j => decide (j < q))) = (fU ⟨Tx ms, Px ms, X, C⟩ (namesM ms) (fun j => decide (j < q))) := rfl
    have HMO : Hid (∀ W w4 x c, SpIn ms w W q X C → TxAt W x ((namesL l).map mkB) → z ≤ c → VMap w4 w.heap.size (q + 1) (updF (fU ⟨Tx ms, Px ms, X, C⟩ (namesM ms) (fun j => decide (j < q))) nm.data.toList (some (.agg #[.string (mkB T), .slice x z c]))) → W.grownBy w4 (some w.heap.size) → SpIn ms w w4 (q + 1) (fun i => if i = q then x else X i) (fun i => if i = q then c else C i)) := Lib.hid fun W w4 x c h1 h2 h3 h4 h5 => by
     refine h1.more HD.out hkn (by rw [hpx]; exact h2) (by rw [hpx, hz]; exact h3) hok ?_ h5
     rw [hnm, hT, hpx, hz]
     exact h4
    clear hT hpc hok hnb hNN hnm hmq HALL HPR HNM HD HZ hpx hfm hz
    generalize mkB T = TB at *
    have hqx : q < maxLen := by unfold maxLen; omega
    go_wp2_with fail
    refine (HP.out _ (HB0.out _).below).mono ?_
    rintro e w2 ⟨rfl, hb2⟩
    have HI2 := Lib.hid ((HB0.out _).after hb2)
    have f0 : w2.cell? ⟨wr.heap.size, 0, none⟩ = some (.string nm) := by rw [hb2.cell (p := ⟨wr.heap.size, 0, none⟩) (by simp)]; simp
    clear hb2 HB0 HI
    go_wp2_with fail
    refine (HNV.out _ HI2.out.below).mono ?_
    rintro e w3 ⟨v, rfl, hrow, hb3⟩
    have HI3 := Lib.hid (HI2.out.after hb3)
    have g0 : w3.cell? ⟨wr.heap.size, 0, none⟩ = some (.string nm) := (hb3.cell (p := ⟨wr.heap.size, 0, none⟩) (lt_of_cell f0)).trans f0
    simp only at hrow
    obtain ⟨x, c, hv, htt, hlc⟩ := nm_texts hrow
    rw [HZZ.out] at hv hlc
    subst hv
    have HTT := Lib.hid (And.intro htt hlc)
    clear hb3 f0 HI2 hrow htt hlc
    go_wp2_with (first
     | (at_mapUpdate; refine wpList_put_v rfl _ _ _ 142 149 rfl Tryz.underlying142 rfl _ rfl _ rfl HI3.out.map_ hqx hnz ?_; intro w4 hm4 hg4; have HF := Lib.hid (HMO.out _ w4 x c HI3.out HTT.out.1 HTT.out.2 hm4 hg4); clear hm4 hg4)
     | fail)
    go_roundw
    case rel => exact ⟨q + 1, _, _, by go_num, by omega, HF⟩
    case measure => simp [intOf]; omega
  ·obtain rfl : q = n := by omega
   have q2 : ¬ (q : Int) < q := by omega
   have H1 : Hid (∀ i, i < 0 → ((namesL (Px ms i)).any fun nm => (plO (namesM ms) nm).isNone) = false) := Lib.hid fun i hi => by omega
   have HOK : Hid (firstB ms.length (fun i => (piecesB (Tx ms i)).isNone) = none) := Lib.hid (firstB_none fun j hj => HI.out.ok j (by rw [← HN.out]; exact hj))
   go_wp2
   go_loopw [50] (fun i wr => ∃ k : Nat, i = .int .i64 k ∧ k ≤ q ∧ Hid (SpIn ms w wr q X C) ∧ Hid (∀ i, i < k → ((namesL (Px ms i)).any fun nm => (plO (namesM ms) nm).isNone) = false)) (fun i _ => q - (intOf i).toNat)
   case atStart => exact ⟨0, rfl, by omega, HI, H1⟩
   case round =>
    clear HI H1
    obtain ⟨k, rfl, hk, HI, HA⟩ := hrel
    by_cases hlt : k < q
    ·have q1 : (0 : Int) ≤ k := by omega
     have q2 : (k : Int) < q := by omega
     have hkm : k < ms.length := by rw [HN.out]; exact hlt
     have hkn : k < (namesM ms).length := by rw [HNL.out]; exact hlt
     obtain ⟨b, c, hbe, _, hcs⟩ := (HALL.out wr HI.out.below).cells hkm
     injection hbe with hbe hx1 hx2
     have e0 := hcs 0 (by decide)
     have e1 := hcs 1 (by decide)
     have e2 := hcs 2 (by decide)
     have e3 := hcs 3 (by decide)
     have e4 := hcs 4 (by decide)
     have e5 := hcs 5 (by decide)
     rw [Nat.add_zero] at e0
     have hnm : (namesM ms)[k] = ms[k].x.name := by simp [namesM]
     have hsx := HZ.out _ (List.getElem_mem hkn)
     have hfa := fU_at ⟨Tx ms, Px ms, X, C⟩ HD.out hkn (fun j => decide (j < q))
     rw [hnm] at hsx hfa
     generalize hmq : ms[k] = m at *
     obtain ⟨⟨nm, ⟨kd, it, tx, ws⟩, fr⟩, a, mc⟩ := m
     simp only [sCells, List.getElem?_cons_zero, List.getElem?_cons_succ] at e0 e1 e2 e3 e4 e5 hsx hnm hfa
     have hnz : nm.size ≤ maxLen := by unfold maxLen; omega
     have hNN : (namesM ms).getD k ⟨#[]⟩ = nm := by rw [List.getD_eq_getElem?_getD, List.getElem?_eq_getElem hkn]; exact hnm
     obtain ⟨L, hL⟩ : ∃ L, namesL (Px ms k) = L := ⟨_, rfl⟩
     obtain ⟨z, hz⟩ : ∃ z, L.length = z := ⟨_, rfl⟩
     obtain ⟨x, hx⟩ : ∃ x, X k = x := ⟨_, rfl⟩
     obtain ⟨cc, hc⟩ : ∃ c, C k = c := ⟨_, rfl⟩
     obtain ⟨tb, ht⟩ : ∃ t, mkB (Tx ms k) = t := ⟨_, rfl⟩
     have hg1 : (fU ⟨Tx ms, Px ms, X, C⟩ (namesM ms) (fun j => decide (j < q)) nm.data.toList).getD (spV ⟨#[]⟩ none 0 0) = .agg #[.string tb, .slice x z cc] := by
      rw [hfa, decide_eq_true hlt, if_pos rfl]
      show spV (mkB (Tx ms k)) (X k) (namesL (Px ms k)).length (C k) = _
      rw [ht, hx, hL, hz, hc]; rfl
     have HZL := Lib.hid hz
     have hzl : z ≤ 201 := by rw [← hz, ← hL]; exact Px_len ms k
     have HTX : Hid (∀ W, SpIn ms w W q X C → TxAt W x (L.map mkB)) := Lib.hid fun W hW => by
      have := (hW.spk k hlt).1
      rw [← hx, ← hL]; exact this
     have HLN : Hid (∀ n1 ∈ L, n1.length ≤ 32) := Lib.hid fun n1 hn1 => by
      have h1 := Px_names ms k (by rw [hL]; exact hn1)
      unfold nameB at h1
      simp only [Bool.and_eq_true, decide_eq_true_eq] at h1
      exact h1.1
     have hfd := field_names
     have HBAD : Hid (∀ w' n1, n1 ∈ L → plO (namesM ms) n1 = none → Below w.heap.size w w' → SpRes ms w (.returned (.tuple #[.map none, .int .i64 101, .string nm])) w') := Lib.hid fun w' n1 h1 h2 hb => by
      refine ⟨hb, ?_⟩
      rw [HOK.out, firstB_some (k := k) (fun j hj => HA.out j hj) hkm (List.any_eq_true.2 ⟨n1, by rw [hL]; exact h1, by rw [h2]; rfl⟩)]
      show Ending.returned _ = Ending.returned _
      rw [hNN]
     have HGOOD : Hid ((∀ n1 ∈ L, plO (namesM ms) n1 ≠ none) → ∀ i, i < k + 1 → ((namesL (Px ms i)).any fun nm => (plO (namesM ms) nm).isNone) = false) := Lib.hid fun h i hi => by
      by_cases e : i = k
      ·subst e
       rw [hL, List.any_eq_false]
       intro n1 h1
       cases hp : plO (namesM ms) n1 with
       | none => exact absurd hp (h n1 h1)
       | some j => simp
      ·exact HA.out i (by omega)
     have HFV : Hid (∀ n1, plO (namesM ms) n1 = none → (fU ⟨Tx ms, Px ms, X, C⟩ (namesM ms) (fun j => decide (j < q)) n1).isSome = false) := Lib.hid fun n1 h => by unfold fU; rw [h]; rfl
     have HFV2 : Hid (∀ n1, plO (namesM ms) n1 ≠ none → (fU ⟨Tx ms, Px ms, X, C⟩ (namesM ms) (fun j => decide (j < q)) n1).isSome = true) := Lib.hid fun n1 h => by
      unfold fU
      cases hp : plO (namesM ms) n1 with
      | none => exact absurd hp h
      | some j =>
       obtain ⟨h1, _⟩ := pl_is hp
       have : j < q := by rw [HNL.out] at h1; exact h1
       simp [this]
     have HB0 : Hid (∀ o, SpIn ms w (wr.alloc o) q X C) := Lib.hid fun o => HI.out.after (below_one wr o)
     subst hbe
     obtain ⟨wo, hwo⟩ : ∃ wo, wo = wr := ⟨_, rfl⟩
     subst hwo
     clear hcs hx1 hx2 hsx hfa hmq hNN hL hz hx hc ht hnm HI HA
     go_wp2_with (first
      | (at_lookup; refine wpList_look_v rfl _ _ 142 149 rfl Tryz.underlying142 _ (zeroS _) rfl _ rfl (HB0.out _).map_ hnz _ hg1 ?_)
      | fail)
     clear hfd
     have HIA := Lib.hid (HB0.out (Obj.cells #[.string nm, .int .i64 kd, .int .i64 it, .string tx, .slice a ws.length mc, .int .i64 fr] 50))
     have HA0 : Hid ((wo.alloc (Obj.cells #[.string nm, .int .i64 kd, .int .i64 it, .string tx, .slice a ws.length mc, .int .i64 fr] 50)).cell? ⟨wo.heap.size, 0, none⟩ = some (.string nm)) := Lib.hid (by simp)
     have H2 : Hid (∀ j (hj : j < L.length), j < 0 → plO (namesM ms) L[j] ≠ none) := Lib.hid fun j _ hj => by omega
     go_loopw [60] (fun i w2 => ∃ j : Nat, i = .int .i64 j ∧ j ≤ z ∧ Hid (SpIn ms w w2 q X C ∧ w2.cell? ⟨wo.heap.size, 0, none⟩ = some (.string nm)) ∧ Hid (∀ j' (hj : j' < L.length), j' < j → plO (namesM ms) L[j'] ≠ none)) (fun i _ => z - (intOf i).toNat)
     case atStart => exact ⟨0, rfl, by omega, Lib.hid ⟨HIA.out, HA0.out⟩, H2⟩
     case round =>
      clear HIA HA0 H2 HB0
      obtain ⟨j, rfl, hj, HJ, HP2⟩ := hrel
      by_cases hjz : j < z
      ·have q3 : (0 : Int) ≤ j := by omega
       have q4 : (j : Int) < z := by omega
       have hjl : j < L.length := by rw [HZL.out]; exact hjz
       obtain ⟨b2, off, hb2, hbl, hc2⟩ := (HTX.out wr HJ.out.1) j (by rw [List.length_map]; exact hjl)
       rw [List.getElem_map] at hc2
       have hml := List.getElem_mem hjl
       have hln := HLN.out _ hml
       obtain ⟨t1, x1, n1, c1, hfv⟩ := fU_val ⟨Tx ms, Px ms, X, C⟩ (namesM ms) (fun j => decide (j < q)) L[j]
       unfold spV at hfv
       have hP1 := HP2.out
       have HJP : Hid (plO (namesM ms) L[j] ≠ none → ∀ j' (hj : j' < L.length), j' < j + 1 → plO (namesM ms) L[j'] ≠ none) := Lib.hid fun h j' hj' hlt' => by
        by_cases e : j' = j
        ·subst e; exact h
        ·exact hP1 j' hj' (by omega)
       have hbad := HBAD.out
       generalize L[j] = n0 at *
       have hzz : (mkB n0).size ≤ maxLen := by rw [mkB_sz]; unfold maxLen; omega
       rw [← mkB_list n0] at hfv
       have hA0 := HJ.out.2
       have HJ2 : Hid (∀ o, SpIn ms w (wr.alloc o) q X C ∧ (wr.alloc o).cell? ⟨wo.heap.size, 0, none⟩ = some (.string nm) ∧ (wr.alloc o).drew.cell? ⟨wo.heap.size, 0, none⟩ = some (.string nm)) := Lib.hid fun o => by
        have h1 : (wr.alloc o).cell? ⟨wo.heap.size, 0, none⟩ = some (.string nm) := ((below_one wr o).cell (p := ⟨wo.heap.size, 0, none⟩) (lt_of_cell hA0)).trans hA0
        exact ⟨HJ.out.1.after (below_one wr o), h1, h1⟩
       have HJM := Lib.hid HJ.out.1.map_
       subst hb2
       cases hp : plO (namesM ms) n0 with
       | none =>
        have hb := HFV.out n0 hp
        rw [← mkB_list n0] at hb
        have HF : Hid (∀ w', Below w.heap.size w w' → SpRes ms w (.returned (.tuple #[.map none, .int .i64 101, .string nm])) w') := Lib.hid fun w' hbw => hbad w' n0 hml hp hbw
        clear HGOOD HBAD HP2 HJ HTX HLN HFV HFV2 hg1 HALL HPR HNM HD HZ hP1 hbad hml hp hln HJP hA0
        generalize mkB n0 = NB at *
        go_wp2_with (first
         | (at_lookup; refine wpList_look_ok_v rfl _ _ 142 149 rfl Tryz.underlying142 _ (zeroS _) rfl _ rfl HJM.out hzz _ hfv _ hb ?_)
         | fail)
        obtain ⟨_, _, g0⟩ := HJ2.out (Obj.cells #[.string t1, .slice x1 n1 c1] 149)
        have HB3 : Hid (Below w.heap.size w (wr.alloc (Obj.cells #[.string t1, .slice x1 n1 c1] 149)).drew) := Lib.hid ((HJ2.out _).1.below.trans ((below_drewN _ 1).mono (HJ2.out _).1.below.size))
        go_region
        all_goals
         go_wp2
         go_ret3
         exact HF.out _ HB3.out
       | some k1 =>
        have hb := HFV2.out n0 (by rw [hp]; simp)
        rw [← mkB_list n0] at hb
        have HF : Hid (∀ j' (hj : j' < L.length), j' < j + 1 → plO (namesM ms) L[j'] ≠ none) := Lib.hid (HJP.out (by rw [hp]; simp))
        clear HGOOD HBAD HP2 HJ HTX HLN HFV HFV2 hg1 HALL HPR HNM HD HZ hP1 hbad hml hp hln HJP hA0
        generalize mkB n0 = NB at *
        go_wp2_with (first
         | (at_lookup; refine wpList_look_ok_v rfl _ _ 142 149 rfl Tryz.underlying142 _ (zeroS _) rfl _ rfl HJM.out hzz _ hfv _ hb ?_)
         | fail)
        go_roundw
        case rel => exact ⟨j + 1, by go_num, by omega, Lib.hid ⟨(HJ2.out _).1, (HJ2.out _).2.1⟩, HF⟩
        case measure => simp [intOf]; omega
      ·obtain rfl : j = z := by omega
       have q4 : ¬ (j : Int) < j := by omega
       have HG := Lib.hid (HGOOD.out fun n1 h1 => by
        obtain ⟨i1, h2, h3⟩ := List.getElem_of_mem h1
        rw [← h3]
        exact HP2.out i1 h2 (by rw [← HZL.out]; exact h2))
       have HIJ := Lib.hid HJ.out.1
       clear HGOOD HBAD HP2 HJ HTX HLN HFV HFV2 hg1 HALL HPR HNM HD HZ
       go_wp2
       go_roundw
       case rel => exact ⟨k + 1, by go_num, by omega, HIJ, HG⟩
       case measure => simp [intOf]; omega
    ·obtain rfl : k = q := by omega
     have HE : Hid (SpRes ms w (.returned (.tuple #[.map (some w.heap.size), .int .i64 0, .string ⟨#[]⟩])) wr) := Lib.hid (by
      refine ⟨HI.out.below, ?_⟩
      rw [HOK.out, firstB_none fun j hj => HA.out j (by rw [← HN.out]; exact hj)]
      refine ⟨X, C, rfl, ?_, by rw [HN.out]; exact HI.out.spk⟩
      rw [HN.out]
      refine HI.out.map_.ext fun n1 => ?_
      unfold fU
      cases hp : plO (namesM ms) n1 with
      | none => rfl
      | some j =>
       obtain ⟨h1, _⟩ := pl_is hp
       have : j < k := by rw [HNL.out] at h1; exact h1
       simp [this])
     clear HI HA HALL HPR HNM HNL HN HD HZ HOK
     go_wp2
     go_ret3
     exact HE.out
end Go.Proofs.YtopghlnoklajkaaGreatDoor
