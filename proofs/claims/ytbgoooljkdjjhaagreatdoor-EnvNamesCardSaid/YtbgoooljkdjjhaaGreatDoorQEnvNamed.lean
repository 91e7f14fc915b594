/-
  EnvAwake, EnvAdds, EnvNamed.
-/
import Derived.Test.YtbgoooljkdjjhaaGreatDoorQEnvParse
import Derived.Test.YtbgoooljkdjjhaaGreatDoorQGivLit
import Derived.Test.YtbgoooljkdjjhaaGreatDoorQEnvCalled
import Derived.WalkKit
import Derived.IntWalk
namespace Go.Proofs.YtbgoooljkdjjhaaGreatDoor
open Go.ChangeShapes Go.WideShapes Go.ChangeAt Go.RowKit

def stdN : List ByteArray := stdL.map (·.name)
theorem std_names : ∀ k ∈ stdL, nameB k.name.data.toList = true := by
  have h : (stdL.all fun k => nameB k.name.data.toList) = true := by kernel_rfl
  exact fun k hk => List.all_eq_true.1 h k hk
theorem eparse_lit (ps : List ByteArray) (R : List GivV × Int × Int) (hp : envP stdN ps = R) (n : Nat) (hn : ps.length = n) (S : Nat) (sx : Option Addr) (sc : Nat) (W : World) (t : TypeId) (g : Nat) (hg : g = W.heap.size) (hS : SetAt W S sx sc stdL) (cs : Array Value) (hcs : cs = (ps.map Value.string).toArray) (hn2 : n ≤ 100) (hz : ∀ p ∈ ps, p.size ≤ 2147483647) (hm : MaxI W) :
    Calls Tryz.prog 23 #[.pointer (some ⟨S, 0, none⟩), .slice (some ⟨g, 0, none⟩) n n] (W.alloc (Obj.cells cs t)) fun e w' => ∃ x c, e = .returned (.tuple #[.slice x R.1.length c, .int .i64 R.2.1, .int .i64 R.2.2]) ∧ Below W.heap.size W w' ∧ Givs w' x R.1 := by
  subst hn hg
  have hb := below_one W (Obj.cells cs t)
  have hl : stdL.length ≤ 1000 := by decide +kernel
  refine (eparse_any stdL S sx sc ps _ _ _ (hS.below hb) hl std_names (texts_lit W ps cs hcs t) (by omega) hz (hm.below hb)).mono ?_
  rintro e w' ⟨v, rfl, ho⟩
  have hp' : envP (stdL.map (·.name)) ps = R := hp
  rw [hp'] at ho ⊢
  obtain ⟨x, c, rfl, h⟩ := Givs.of_own ho.own rfl
  exact ⟨x, c, rfl, hb.trans (ho.below.mono hb.size), h⟩
set_option maxRecDepth 100000 in
theorem eparse_nil (x : Option Addr) (n c : Nat) (w : World) :
    Calls Tryz.prog 23 #[.pointer none, .slice x n c] w fun e w' => e = .returned (.tuple #[.slice none 0 0, .int .i64 1, .int .i64 0]) ∧ w = w' := by
  go_enter Tryz.func23, Tryz.ntmps23
  go_wp2
  go_ret3
  exact ⟨rfl, rfl⟩
def gE1 : GivV := ⟨⟨#[110, 101, 116, 46, 112, 111, 114, 116]⟩, ⟨#[57, 48, 48, 49]⟩, 1⟩
def gE2 : GivV := ⟨⟨#[110, 101, 116, 46, 112, 111, 114, 116]⟩, ⟨#[]⟩, 3⟩
def eP1 : List ByteArray := [⟨#[72, 79, 77, 69, 61, 47, 114, 111, 111, 116]⟩, ⟨#[78, 69, 84, 95, 80, 79, 82, 84, 61, 57, 48, 48, 49]⟩, ⟨#[80, 79, 82, 84, 61, 49]⟩, ⟨#[78, 69, 84, 95, 80, 79, 82, 84, 61]⟩]
def eP2 : List ByteArray := [⟨#[65, 61, 49]⟩, ⟨#[78, 69, 84, 95, 80, 79, 82, 84, 83, 61, 49]⟩]
def eP3 : List ByteArray := [⟨#[65, 61, 49]⟩, ⟨#[66]⟩]
theorem ep1 : envP stdN eP1 = ([gE1, gE2], 0, 0) := by kernel_rfl
theorem ep2 : envP stdN eP2 = ([], 81, 1) := by kernel_rfl
theorem ep3 : envP stdN eP3 = ([], 80, 1) := by kernel_rfl
theorem nv1 : nameV (⟨#[110, 101, 116, 46, 112, 111, 114, 116]⟩ : ByteArray).data.toList = .tuple #[.string ⟨#[78, 69, 84, 95, 80, 79, 82, 84]⟩, .int .i64 0] := by kernel_rfl
theorem nv2 : nameV (⟨#[78, 101, 116]⟩ : ByteArray).data.toList = .tuple #[.string ⟨#[]⟩, .int .i64 1] := by kernel_rfl
set_option maxHeartbeats 3200000 in
set_option maxRecDepth 100000 in
theorem eawake_any (w : World) (hT : Tab w) (hU : Units w) (hI : MaxI w) :
    Calls Tryz.prog 16 #[] w fun e w' => e = .returned (.bool true) ∧ Below w.heap.size w w' := by
  have HN1 : Hid (Calls Tryz.prog 17 #[.string ⟨#[110, 101, 116, 46, 112, 111, 114, 116]⟩] w fun e w' => e = .returned (.tuple #[.string ⟨#[78, 69, 84, 95, 80, 79, 82, 84]⟩, .int .i64 0]) ∧ Below w.heap.size w w') := Lib.hid (by
    have := ename_any ⟨#[110, 101, 116, 46, 112, 111, 114, 116]⟩ w (by decide) hT hI
    rw [nv1] at this
    exact this)
  have HN2 : Hid (∀ W, Below w.heap.size w W → Calls Tryz.prog 17 #[.string ⟨#[78, 101, 116]⟩] W fun e w' => e = .returned (.tuple #[.string ⟨#[]⟩, .int .i64 1]) ∧ Below W.heap.size W w') := Lib.hid fun W hb => by
    have := ename_any ⟨#[78, 101, 116]⟩ W (by decide) (hT.below hb) (hI.below hb)
    rw [nv2] at this
    exact this
  have HST : Hid (∀ W, Below w.heap.size w W → Calls Tryz.prog 29 #[] W fun e w' => ∃ S, e = .returned (.pointer (some ⟨S, 0, none⟩)) ∧ SetIn W w' S stdL) := Lib.hid fun W hb => standard_any W (hT.below hb) (hU.below hb) (hI.below hb)
  have HMX : Hid (∀ W, Below w.heap.size w W → MaxI W) := Lib.hid fun W hb => hI.below hb
  clear hT hU hI
  go_enter Tryz.func16, Tryz.ntmps16
  go_wp2_with fail
  refine HN1.out.mono ?_
  rintro e w1 ⟨rfl, hb1⟩
  have HB1 := Lib.hid hb1
  clear hb1 HN1
  go_wp2_with fail
  refine (HN2.out _ HB1.out).mono ?_
  rintro e w2 ⟨rfl, hb2⟩
  have HB2 := Lib.hid (HB1.out.trans (hb2.mono HB1.out.size))
  clear hb2 HN2 HB1
  go_wp2_with fail
  refine (HST.out _ HB2.out).mono ?_
  rintro e w3 ⟨S, rfl, hs3⟩
  have HS3 := Lib.hid hs3
  have HB3 := Lib.hid (HB2.out.trans (hs3.below.mono HB2.out.size))
  clear hs3 HST HB2
  go_wp2_with fail
  obtain ⟨sx3, sc3, hsa3⟩ := HS3.out.set
  refine (eparse_lit eP1 _ ep1 4 rfl S sx3 sc3 _ _ _ rfl hsa3 _ rfl (by decide) (by decide) (HMX.out _ HB3.out)).mono ?_
  clear hsa3
  rintro e w4 ⟨x4, c4, rfl, hb4, hg4⟩
  have HS4 := Lib.hid (HS3.out.below' hb4)
  have HB4 := Lib.hid (HB3.out.trans (hb4.mono HB3.out.size))
  have HG4 := Lib.hid hg4
  clear hb4 hg4 HS3 HB3
  go_wp2_with fail
  obtain ⟨sx4, sc4, hsa4⟩ := HS4.out.set
  refine (eparse_lit eP2 _ ep2 2 rfl S sx4 sc4 _ _ _ rfl hsa4 _ rfl (by decide) (by decide) (HMX.out _ HB4.out)).mono ?_
  clear hsa4
  rintro e w5 ⟨x5, c5, rfl, hb5, _⟩
  have HS5 := Lib.hid (HS4.out.below' hb5)
  have HB5 := Lib.hid (HB4.out.trans (hb5.mono HB4.out.size))
  have HG5 := Lib.hid (HG4.out.below hb5)
  clear hb5 HG4 HS4 HB4
  go_wp2_with fail
  obtain ⟨sx5, sc5, hsa5⟩ := HS5.out.set
  refine (eparse_lit eP3 _ ep3 2 rfl S sx5 sc5 _ _ _ rfl hsa5 _ rfl (by decide) (by decide) (HMX.out _ HB5.out)).mono ?_
  clear hsa5
  rintro e w6 ⟨x6, c6, rfl, hb6, _⟩
  have HB6 := Lib.hid (HB5.out.trans (hb6.mono HB5.out.size))
  have hg6 := HG5.out.below hb6
  clear hb6 HG5 HS5 HB5
  go_wp2_with fail
  refine (eparse_nil _ _ _ _).mono ?_
  rintro e w7 ⟨rfl, rfl⟩
  obtain ⟨b, off, rfl, _, a0, a1, a2⟩ := hg6 0 (by decide)
  obtain ⟨b', off', ex, _, b0, b1, b2⟩ := hg6 1 (by decide)
  obtain ⟨rfl, rfl⟩ : b = b' ∧ off = off' := by simpa using ex
  have hq1 := geql_self gE1
  have hq2 := geql_self gE2
  have hgd := geql_guard
  unfold gE1 at a0 a1 a2 hq1
  unfold gE2 at b0 b1 b2 hq2
  simp at a0 a1 a2 b0 b1 b2 hq1 hq2
  clear hg6 ex
  go_wp2
  go_ret
  exact ⟨rfl, HB6.out⟩
end Go.Proofs.YtbgoooljkdjjhaaGreatDoor

namespace Go.Proofs.YtbgoooljkdjjhaaGreatDoor
open Go.ChangeShapes Go.WideShapes Go.ChangeAt Go.RowKit

/-- The sum, bounded. -/
def upJ (n m : Int) : Int := if 2147483647 < n ∨ 2147483647 < m then 2147483648 else n + m
theorem upJ_in {n m : Int} (h0 : 0 ≤ n) (h1 : 0 ≤ m) : 0 ≤ upJ n m ∧ upJ n m ≤ 4294967294 := by unfold upJ; split <;> omega
set_option maxRecDepth 100000 in
theorem addsUp_any (n m : Int) (w : World) (h0 : 0 ≤ n) (h1 : n ≤ 9223372036854775807) (h2 : 0 ≤ m) (h3 : m ≤ 9223372036854775807) :
    Calls Tryz.prog 15 #[.int .i64 n, .int .i64 m] w fun e w' => e = .returned (.int .i64 (upJ n m)) ∧ w = w' := by
  by_cases h : 2147483647 < n
  · rw [show upJ n m = 2147483648 by unfold upJ; rw [if_pos (.inl h)]]
    go_enter Tryz.func15, Tryz.ntmps15
    go_wp2
    go_ret
    exact ⟨rfl, rfl⟩
  · by_cases h' : 2147483647 < m
    · rw [show upJ n m = 2147483648 by unfold upJ; rw [if_pos (.inr h')]]
      go_enter Tryz.func15, Tryz.ntmps15
      go_wp2
      go_ret
      exact ⟨rfl, rfl⟩
    · rw [show upJ n m = n + m by unfold upJ; rw [if_neg (by omega)]]
      have hw2 : IntKind.i64.wrap (n + m) = n + m := IntWalk.i64_in _ (by omega)
      go_enter Tryz.func15, Tryz.ntmps15
      go_wp2
      go_ret
      exact ⟨rfl, rfl⟩
end Go.Proofs.YtbgoooljkdjjhaaGreatDoor

namespace Go.Proofs.YtbgoooljkdjjhaaGreatDoor
open Go.ChangeShapes Go.WideShapes Go.ChangeAt Go.RowKit

set_option maxHeartbeats 3200000 in
set_option maxRecDepth 100000 in
theorem envNames_any (s t : ByteArray) (w : World) (hs : s.size ≤ maxLen) (ht : t.size ≤ maxLen) (hT : Tab w) (hU : Units w) (hI : MaxI w) :
    Calls Tryz.prog 4 #[.string s, .string t] w fun e w' => e = .returned (.bool true) ∧ Below w.heap.size w w' := by
  unfold maxLen at hs ht
  have HAD : Hid (∀ W, Calls Tryz.prog 15 #[.int .i64 s.size, .int .i64 t.size] W fun e w' => e = .returned (.int .i64 (upJ s.size t.size)) ∧ W = w') := Lib.hid fun W => addsUp_any _ _ W (by omega) (by omega) (by omega) (by omega)
  by_cases hb : 2147483647 < upJ s.size t.size
  · generalize upJ s.size t.size = U at HAD hb
    go_enter Tryz.func4, Tryz.ntmps4
    go_wp2_with fail
    refine (HAD.out _).mono ?_
    rintro e w1 ⟨rfl, rfl⟩
    go_wp2
    go_ret
    exact ⟨rfl, Below.refl _ _⟩
  · have h1 : s.size ≤ 4294967280 ∧ t.size ≤ 4294967280 := by
      unfold upJ at hb
      split at hb <;> omega
    have HAW := Lib.hid (eawake_any w hT hU hI)
    have HNA : Hid (∀ W (q : ByteArray), q.size ≤ 4294967280 → Below w.heap.size w W → Calls Tryz.prog 17 #[.string q] W fun e w' => e = .returned (nameV q.data.toList) ∧ Below W.heap.size W w') := Lib.hid fun W q hq hb => ename_any q W hq (hT.below hb) (hI.below hb)
    have HRN : Hid (∀ W, Calls Tryz.prog 18 #[.string s] W fun e w' => e = .returned (nameV s.data.toList) ∧ Below W.heap.size W w') := Lib.hid fun W => erefName_any s W h1.1
    obtain ⟨z1, z2⟩ := h1
    have hv : ∀ q : ByteArray, ∃ (v : ByteArray) (n : Int), nameV q.data.toList = .tuple #[.string v, .int .i64 n] ∧ (n = 0 → nameB q.data.toList = true ∧ v = mkB (calledL q.data.toList)) := fun q => by
      unfold nameV
      cases h : nameB q.data.toList with
      | true => exact ⟨_, 0, by rw [if_pos rfl], fun _ => ⟨rfl, rfl⟩⟩
      | false => exact ⟨_, 1, by rw [if_neg (by decide)], fun h => by cases h⟩
    obtain ⟨a, e1, ha, ha0⟩ := hv s
    obtain ⟨c, e2, hc, hc0⟩ := hv t
    have hinj : e1 = 0 → e2 = 0 → a = c → s = t := fun g1 g2 g3 => by
      obtain ⟨n1, rfl⟩ := ha0 g1
      obtain ⟨n2, rfl⟩ := hc0 g2
      have g4 := congrArg (fun b : ByteArray => b.data.toList) g3
      simp only [mkB_data] at g4
      have g5 := called_inj (name_ok n1) (name_ok n2) g4
      rw [← mkB_self s, g5, mkB_self]
    have HNS : Hid (∀ W, Below w.heap.size w W → Calls Tryz.prog 17 #[.string s] W fun e w' => e = .returned (.tuple #[.string a, .int .i64 e1]) ∧ Below W.heap.size W w') := Lib.hid fun W hb => by
      have := HNA.out W s z1 hb
      rw [ha] at this
      exact this
    have HNT : Hid (∀ W, Below w.heap.size w W → Calls Tryz.prog 17 #[.string t] W fun e w' => e = .returned (.tuple #[.string c, .int .i64 e2]) ∧ Below W.heap.size W w') := Lib.hid fun W hb => by
      have := HNA.out W t z2 hb
      rw [hc] at this
      exact this
    rw [ha] at HRN
    clear HNA hv ha hc ha0 hc0 hT hU hI hs ht
    generalize upJ s.size t.size = U at HAD hb
    have hal : (decide (e1 = 0) && decide (e2 = 0) && decide (a = c)) = true → s = t := fun h => by
      simp only [Bool.and_eq_true, decide_eq_true_eq] at h
      exact hinj h.1.1 h.1.2 h.2
    go_enter Tryz.func4, Tryz.ntmps4
    go_wp2_with fail
    refine (HAD.out _).mono ?_
    rintro e w1 ⟨rfl, rfl⟩
    go_wp2_with fail
    refine HAW.out.mono ?_
    rintro e w2 ⟨rfl, hb2⟩
    have HB2 := Lib.hid hb2
    clear hb2 HAW HAD
    go_wp2_with fail
    refine (HNS.out _ HB2.out).mono ?_
    rintro e w3 ⟨rfl, hb3⟩
    have HB3 := Lib.hid (HB2.out.trans (hb3.mono HB2.out.size))
    clear hb3 HNS HB2
    go_wp2_with fail
    refine (HRN.out _).mono ?_
    rintro e w4 ⟨rfl, hb4⟩
    have HB4 := Lib.hid (HB3.out.trans (hb4.mono HB3.out.size))
    clear hb4 HRN HB3
    go_wp2_with fail
    refine (HNT.out _ HB4.out).mono ?_
    rintro e w5 ⟨rfl, hb5⟩
    have HB5 := Lib.hid (HB4.out.trans (hb5.mono HB4.out.size))
    clear hb5 HNT HB4
    by_cases g1 : e1 = 0
    · subst g1
      by_cases g2 : e2 = 0
      · subst g2
        by_cases g3 : a = c
        · obtain rfl := hinj rfl rfl g3
          subst g3
          clear hinj hal
          go_wp2
          go_ret
          exact ⟨by first | rfl | simp, HB5.out⟩
        · have g4 : ¬ a.toList = c.toList := fun h => g3 (by rw [← mkB_self a, ← mkB_self c, ← Lib.toList_data, ← Lib.toList_data, h])
          clear hinj hal
          go_wp2
          go_ret
          exact ⟨by first | rfl | simp, HB5.out⟩
      · have g4 : (e2 == 0) = false := by simpa using g2
        clear hinj hal
        go_wp2
        go_ret
        exact ⟨by first | rfl | simp, HB5.out⟩
    · have g4 : (e1 == 0) = false := by simpa using g1
      clear hinj hal
      go_wp2
      go_ret
      exact ⟨by first | rfl | simp, HB5.out⟩
end Go.Proofs.YtbgoooljkdjjhaaGreatDoor
