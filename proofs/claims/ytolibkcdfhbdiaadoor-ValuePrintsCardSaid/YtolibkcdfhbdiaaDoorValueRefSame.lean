/-
  The walk of the document's own 'Same'.
-/
import Derived.Test.YtolibkcdfhbdiaaDoorValuePrint
import Derived.Test.YtolibkcdfhbdiaaDoorValueSame
import Derived.Deep.RegionHeld3
namespace Go.Proofs.YtolibkcdfhbdiaaDoor
open Go.ChangeShapes Go.WideShapes Go.ChangeAt Go.RowKit

theorem same_len {k n k' n' : Int} {t t' : ByteArray} {xs ys : List ByteArray} (h : ¬ xs.length = ys.length) : sameV ⟨k, n, t, xs⟩ ⟨k', n', t', ys⟩ = false := by
  unfold sameV; rw [decide_eq_false (p := xs = ys) (fun e => h (by rw [e]))]; simp
theorem same_take {k n : Int} {t : ByteArray} {xs ys : List ByteArray} {j : Nat} (h1 : j < xs.length) (h2 : j < ys.length) (hp : xs.take j = ys.take j) :
    (¬ xs[j] = ys[j] → sameV ⟨k, n, t, xs⟩ ⟨k, n, t, ys⟩ = false) ∧ (xs[j] = ys[j] → xs.take (j + 1) = ys.take (j + 1)) := by
  refine ⟨fun hn => ?_, fun he => ?_⟩
  · unfold sameV; rw [decide_eq_false (p := xs = ys) (fun e => hn (by subst e; rfl))]; simp
  · rw [List.take_succ_eq_append_getElem h1, List.take_succ_eq_append_getElem h2, hp, he]
structure TwoB (w0 w : World) (A B : Nat) (v u : Val) (x y : Option Addr) (c d : Nat) : Prop where
  below : Below w0.heap.size w0 w
  boxA : Box4 w A (.int .i64 v.kind) (.int .i64 v.int) (.string v.text) (.slice x v.words.length c)
  boxB : Box4 w B (.int .i64 u.kind) (.int .i64 u.int) (.string u.text) (.slice y u.words.length d)
  lA : Txts w x v.words
  lB : Txts w y u.words
theorem TwoB.below' {w0 w w' : World} {A B : Nat} {v u : Val} {x y : Option Addr} {c d : Nat} (h : TwoB w0 w A B v u x y c d) (hb : Below w.heap.size w w') : TwoB w0 w' A B v u x y c d :=
  ⟨h.below.trans (hb.mono h.below.size), h.boxA.below hb, h.boxB.below hb, h.lA.below hb, h.lB.below hb⟩

set_option maxHeartbeats 3200000 in
set_option maxRecDepth 100000 in
theorem refSame_any (w : World) (v u : Val) (x y : Option Addr) (c d : Nat) (h : ArgOk w v x c) (g : ArgOk w u y d) :
    Calls Tryd.prog 14 #[argV v x c, argV u y d] w fun e w' => e = .returned (.bool (sameV v u)) ∧ Below w.heap.size w w' := by
  have hb0 : Hid (∀ o p, Below w.heap.size w ((w.alloc o).alloc p)) := Lib.hid fun o p => ((Below.refl _ _).alloc (Nat.le_refl _) o).alloc (by simp) p
  have HS : Hid (sameV v u = (decide (v.kind = u.kind) && decide (v.int = u.int) && decide (v.text = u.text) && decide (v.words = u.words))) := Lib.hid rfl
  have hlen := h.len
  have hlen' := g.len
  have HVB : Hid (∀ p q, TwoB w ((w.alloc (.cells #[.int .i64 v.kind, .int .i64 v.int, .string v.text, .slice x v.words.length c] p)).alloc (.cells #[.int .i64 u.kind, .int .i64 u.int, .string u.text, .slice y u.words.length d] q)) w.heap.size (w.heap.size + 1) v u x y c d) := Lib.hid fun p q => by
    refine ⟨((Below.refl _ _).alloc (Nat.le_refl _) _).alloc (by simp) _, (box4_new w _ _ _ _ _).below ((Below.refl _ _).alloc (Nat.le_refl _) _), ?_, h.list.below (hb0.out _ _), g.list.below (hb0.out _ _)⟩
    have := box4_new (w.alloc (.cells #[.int .i64 v.kind, .int .i64 v.int, .string v.text, .slice x v.words.length c] p)) (.int .i64 u.kind) (.int .i64 u.int) (.string u.text) (.slice y u.words.length d) q
    simpa using this
  clear h g
  obtain ⟨k1, n1, t1, xs⟩ := v
  obtain ⟨k2, n2, t2, ys⟩ := u
  simp only at HS HVB hlen hlen'
  unfold argV
  simp only
  by_cases hk : k1 = k2
  case neg =>
    have e1 : (k1 == k2) = false := beq_eq_false_iff_ne.2 hk
    have e2 : (k1 != k2) = true := ne_true hk
    have HV : Hid (sameV ⟨k1, n1, t1, xs⟩ ⟨k2, n2, t2, ys⟩ = false) := Lib.hid (by rw [HS.out, decide_eq_false hk]; simp)
    clear hk HS HVB
    go_enter Tryd.func14, Tryd.ntmps14
    go_wp2
    go_ret
    exact ⟨ret_bool HV.out, hb0.out _ _⟩
  subst hk
  by_cases hn : n1 = n2
  case neg =>
    have e1 : (n1 == n2) = false := beq_eq_false_iff_ne.2 hn
    have e2 : (n1 != n2) = true := ne_true hn
    have HV : Hid (sameV ⟨k1, n1, t1, xs⟩ ⟨k1, n2, t2, ys⟩ = false) := Lib.hid (by rw [HS.out, decide_eq_false hn]; simp)
    clear hn HS HVB
    go_enter Tryd.func14, Tryd.ntmps14
    go_wp2
    go_ret
    exact ⟨ret_bool HV.out, hb0.out _ _⟩
  subst hn
  by_cases ht : t1 = t2
  case neg =>
    have e1 : (t1.toList == t2.toList) = false := beq_eq_false_iff_ne.2 (fun h => ht (toList_inj h))
    have HV : Hid (sameV ⟨k1, n1, t1, xs⟩ ⟨k1, n1, t2, ys⟩ = false) := Lib.hid (by rw [HS.out, decide_eq_false ht]; simp)
    clear ht HS HVB
    go_enter Tryd.func14, Tryd.ntmps14
    go_wp2
    go_ret
    exact ⟨ret_bool HV.out, hb0.out _ _⟩
  subst ht
  by_cases hl : xs.length = ys.length
  case neg =>
    have e1 : ((xs.length : Int) == ys.length) = false := beq_eq_false_iff_ne.2 (by omega)
    have e2 : ((xs.length : Int) != ys.length) = true := ne_true (by omega)
    have HV := Lib.hid (same_len (k := k1) (n := n1) (t := t1) (k' := k1) (n' := n1) (t' := t1) hl)
    clear hl HS HVB
    go_enter Tryd.func14, Tryd.ntmps14
    go_wp2
    go_ret
    exact ⟨ret_bool HV.out, hb0.out _ _⟩
  have HL := Lib.hid hl
  obtain ⟨L, hL⟩ : ∃ L, ys.length = L := ⟨_, rfl⟩
  have HLY := Lib.hid hL
  simp only [hl, hL] at HVB ⊢
  have hLl : L ≤ 4611686018427387904 := by omega
  clear hl hL HS hlen hlen' hb0
  go_enter Tryd.func14, Tryd.ntmps14
  go_wp2
  obtain ⟨B, hB⟩ : ∃ B, w.heap.size + 1 = B := ⟨_, rfl⟩
  obtain ⟨A, hA⟩ : ∃ A, w.heap.size = A := ⟨_, rfl⟩
  rw [hB] at HVB
  refine gen_world (fun W => TwoB w W w.heap.size B ⟨k1, n1, t1, xs⟩ ⟨k1, n1, t1, ys⟩ x y c d) ?_ ?_
  · exact HVB.out 29 29
  intro wa hva
  rw [hA] at hva
  try rw [hB]
  rw [hA]
  have HV0 := Lib.hid hva
  clear hva HVB
  go_loopw [5] (fun i wr => ∃ j : Nat, i = .int .i64 j ∧ j ≤ L ∧ Hid (TwoB w wr A B ⟨k1, n1, t1, xs⟩ ⟨k1, n1, t1, ys⟩ x y c d) ∧ Hid (xs.take j = ys.take j)) (fun i _ => L - (intOf i).toNat)
  case atStart => exact ⟨0, rfl, by omega, HV0, Lib.hid rfl⟩
  case round =>
    clear HV0
    obtain ⟨j, rfl, hj, HW, HT⟩ := hrel
    obtain ⟨_, _, _, a3, _, _, _, _⟩ := HW.out.boxA
    obtain ⟨_, _, _, b3, _, _, _, _⟩ := HW.out.boxB
    simp only [HL.out, HLY.out] at a3 b3
    by_cases hlt : j < L
    · have jx : j < xs.length := by rw [HL.out, HLY.out]; exact hlt
      have jy : j < ys.length := by rw [HLY.out]; exact hlt
      obtain ⟨bx, ox, hxe, hbx, hcx⟩ := HW.out.lA j jx
      obtain ⟨by', oy, hye, hby, hcy⟩ := HW.out.lB j jy
      obtain ⟨s1, s2⟩ := same_take (k := k1) (n := n1) (t := t1) jx jy HT.out
      simp only at hcx hcy
      generalize xs[j] = p at hcx s1 s2
      generalize ys[j] = q at hcy s1 s2
      subst hxe hye
      have q1 : (0 : Int) ≤ j := by omega
      have q2 : (j : Int) < L := by omega
      have HWD : Hid (TwoB w wr.drew A B ⟨k1, n1, t1, xs⟩ ⟨k1, n1, t1, ys⟩ (some ⟨bx, ox, none⟩) (some ⟨by', oy, none⟩) c d) := Lib.hid (HW.out.below' (below_drewN wr 1))
      clear jx jy
      by_cases hpq : p = q
      · have HN := Lib.hid (s2 hpq)
        subst hpq
        clear s1 s2
        go_wp2
        go_region_held3 (fun w' => w'.cell? ⟨A, 3, none⟩ = some (.slice (some ⟨bx, ox, none⟩) L c) ∧ w'.cell? ⟨B, 3, none⟩ = some (.slice (some ⟨by', oy, none⟩) L d) ∧ w'.cell? ⟨bx, ox + j, none⟩ = some (.string p) ∧ w'.cell? ⟨by', oy + j, none⟩ = some (.string p)) (first | exact ⟨a3, b3, hcx, hcy⟩) (fail)
        go_wp2
        go_roundw
        case rel => exact ⟨j + 1, by go_num, by omega, HWD, HN⟩
        case measure => simp [intOf]; omega
      · have HN := Lib.hid (s1 hpq)
        have e1 : (p.toList == q.toList) = false := beq_eq_false_iff_ne.2 (fun h => hpq (toList_inj h))
        clear s1 s2 hpq
        go_wp2
        go_region_held3 (fun w' => w'.cell? ⟨A, 3, none⟩ = some (.slice (some ⟨bx, ox, none⟩) L c) ∧ w'.cell? ⟨B, 3, none⟩ = some (.slice (some ⟨by', oy, none⟩) L d) ∧ w'.cell? ⟨bx, ox + j, none⟩ = some (.string p) ∧ w'.cell? ⟨by', oy + j, none⟩ = some (.string q)) (first | exact ⟨a3, b3, hcx, hcy⟩) (fail)
        go_wp2
        go_ret
        exact ⟨ret_bool HN.out, by first | exact HWD.out.below | (rw [← hA]; exact HWD.out.below)⟩
    · have q2 : decide ((j : Int) < L) = false := decide_eq_false (by omega)
      have HE : Hid (sameV ⟨k1, n1, t1, xs⟩ ⟨k1, n1, t1, ys⟩ = true) := Lib.hid (by
        have := HT.out
        rw [List.take_of_length_le (by rw [HL.out, HLY.out]; omega), List.take_of_length_le (by rw [HLY.out]; omega)] at this
        subst this; simp [sameV])
      go_wp2
      go_ret
      exact ⟨ret_bool HE.out, by first | exact HW.out.below | (rw [← hA]; exact HW.out.below)⟩
end Go.Proofs.YtolibkcdfhbdiaaDoor
