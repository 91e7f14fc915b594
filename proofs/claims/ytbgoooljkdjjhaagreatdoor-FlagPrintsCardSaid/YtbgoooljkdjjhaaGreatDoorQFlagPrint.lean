/-
  FlagPrint.
-/
import Derived.Test.YtbgoooljkdjjhaaGreatDoorQKeyRefAdd
import Derived.Test.YtbgoooljkdjjhaaGreatDoorQGivKit
import Derived.Deep.RegionLaw
namespace Go.Proofs.YtbgoooljkdjjhaaGreatDoor
open Go.ChangeShapes Go.WideShapes Go.ChangeAt Go.RowKit

/-- A setting as an argument. -/
def argB (g : GivV) : ByteArray := (((⟨#[45, 45]⟩ : ByteArray) ++ g.name) ++ (⟨#[61]⟩ : ByteArray)) ++ g.text
/-- What settings are printed as, and whether they may be. -/
def printA (xs : List KeyV) (gs : List GivV) : List ByteArray × Int := if gs.all (fun g => hasK xs g.name) then (gs.map argB, 0) else ([], 1)
/-- What Print answers. -/
def PrnA (w : World) (p : List ByteArray × Int) (e : Ending) (w' : World) : Prop := ∃ v, e = .returned (.tuple #[v, .int .i64 p.2]) ∧ OwnX w w' v p.1
theorem printA_no {xs : List KeyV} {gs : List GivV} {t : Nat} (ht : t < gs.length) (h : hasK xs gs[t].name = false) : printA xs gs = ([], 1) := by
  unfold printA
  rw [if_neg]
  intro ha
  rw [List.all_eq_true] at ha
  have := ha _ (List.getElem_mem ht)
  rw [h] at this; cases this
theorem printA_all {xs : List KeyV} {gs : List GivV} (h : ∀ k (hk : k < gs.length), hasK xs gs[k].name = true) : printA xs gs = (gs.map argB, 0) := by
  unfold printA
  rw [if_pos]
  rw [List.all_eq_true]
  intro g hg
  obtain ⟨i, hi, rfl⟩ := List.mem_iff_getElem.1 hg
  exact h i hi
set_option maxHeartbeats 3200000 in
set_option maxRecDepth 100000 in
theorem fprint_any (xs : List KeyV) (S : Nat) (x0 : Option Addr) (c0 : Nat) (gs : List GivV) (x : Option Addr) (c : Nat) (w : World) (hS : SetAt w S x0 c0 xs) (hs : Sorted xs) (hl : xs.length ≤ 64) (hg : Givs w x gs) (hn : gs.length ≤ 4294967280) (hz : ∀ g ∈ gs, g.name.size ≤ 4294967280 ∧ g.text.size ≤ 4294967280) :
    Calls Tryz.prog 11 #[.pointer (some ⟨S, 0, none⟩), .slice x gs.length c] w (PrnA w (printA xs gs)) := by
  have HFI : Hid (∀ W nm, Below w.heap.size w W → Calls Tryz.prog 37 #[.pointer (some ⟨S, 0, none⟩), .string nm] W fun e w' => e = .returned (oAgg (findK xs nm)) ∧ Below W.heap.size W w') := Lib.hid fun W nm hb => find_any xs nm S x0 c0 W (hS.below hb) hs (by omega)
  have HG := Lib.hid hg
  have HZ := Lib.hid hz
  obtain ⟨P, hP⟩ : ∃ P, printA xs gs = P := ⟨_, rfl⟩
  have HP := Lib.hid hP
  rw [hP]
  obtain ⟨n, hn'⟩ : ∃ n, gs.length = n := ⟨_, rfl⟩
  have HN := Lib.hid hn'
  rw [hn'] at hn ⊢
  have H0 : Hid (OwnX w w (.slice none 0 0) []) := Lib.hid (OwnX.nil_ w)
  have HNO : Hid (∀ W, Below w.heap.size w W → P = ([], 1) → PrnA w P (.returned (.tuple #[.slice none 0 0, .int .i64 1])) W) := Lib.hid fun W hb e => by subst e; exact ⟨_, rfl, World.ownsRow_nil _ _ _ _, hb⟩
  clear hS hs hg hz hP hn'
  go_enter Tryz.func11, Tryz.ntmps11
  go_wp2
  go_loopw [6, 15] (fun u i wr => ∃ (t : Nat) (v : Value) (ts : List ByteArray), v = u ∧ i = .int .i64 t ∧ t ≤ n ∧ ts.length = t ∧ Hid (ts = (gs.take t).map argB) ∧ Hid (∀ k (hk : k < gs.length), k < t → hasK xs gs[k].name = true) ∧ Hid (OwnX w wr v ts)) (fun _ i _ => n - (intOf i).toNat)
  case atStart => exact ⟨0, _, [], rfl, rfl, by omega, rfl, Lib.hid (by simp), Lib.hid (fun k _ h => absurd h (by omega)), H0⟩
  case round =>
    clear H0
    obtain ⟨t, v, ts, rfl, rfl, ht, hts, HTS, HA, HO⟩ := hrel
    by_cases hlt : t < n
    · have htx : t < gs.length := by rw [HN.out]; exact hlt
      obtain ⟨bx, off, hxe, hxl, d0, d1, d2⟩ := (HG.out.below HO.out.below) t htx
      have hzz := HZ.out _ (List.getElem_mem htx)
      have HTK := Lib.hid (List.take_succ_eq_append_getElem htx)
      have HNX : Hid (hasK xs gs[t].name = false → P = ([], 1)) := Lib.hid fun h => HP.out.symm.trans (printA_no htx h)
      have HYX : Hid (hasK xs gs[t].name = true → ∀ k (hk : k < gs.length), k < t + 1 → hasK xs gs[k].name = true) := Lib.hid fun h k hk hk2 => by
        rcases Nat.lt_or_ge k t with h1 | h1
        · exact HA.out k hk h1
        · obtain rfl : k = t := by omega
          exact h
      generalize gs[t] = g at d0 d1 d2 hzz HTK HNX HYX
      obtain ⟨gn, gt, ga⟩ := g
      simp only at d0 d1 d2 hzz HNX HYX
      obtain ⟨z1, z2⟩ := hzz
      have q1 : (0 : Int) ≤ t := by omega
      have q2 : (t : Int) < n := by omega
      subst hxe
      have j1 : ¬ 9223372036854775807 < 2 + gn.size := by omega
      have j2 : ¬ 9223372036854775807 < 2 + gn.size + 1 := by omega
      have j3 : ¬ 9223372036854775807 < 2 + gn.size + 1 + gt.size := by omega
      have HBO : Hid (∀ o, Below w.heap.size w (wr.alloc o)) := Lib.hid fun o => HO.out.below.trans ((below_one wr o).mono HO.out.below.size)
      have HGB : Hid (∀ W t0, Below (wr.alloc (Obj.cells #[.string gn, .string gt, .int .i64 ga] t0)).heap.size (wr.alloc (Obj.cells #[.string gn, .string gt, .int .i64 ga] t0)) W → ∀ o, (W.alloc o).cell? ⟨wr.heap.size, 0, none⟩ = some (.string gn) ∧ (W.alloc o).cell? ⟨wr.heap.size, 1, none⟩ = some (.string gt)) := Lib.hid fun W t0 hb o => by
        have hl0 : wr.heap.size < (wr.alloc (Obj.cells #[.string gn, .string gt, .int .i64 ga] t0)).heap.size := by simp
        have hl1 : wr.heap.size < W.heap.size := Nat.lt_of_lt_of_le hl0 hb.size
        have h0 : (wr.alloc (Obj.cells #[.string gn, .string gt, .int .i64 ga] t0)).cell? ⟨wr.heap.size, 0, none⟩ = some (.string gn) := by simp
        have h1 : (wr.alloc (Obj.cells #[.string gn, .string gt, .int .i64 ga] t0)).cell? ⟨wr.heap.size, 1, none⟩ = some (.string gt) := by simp
        exact ⟨((below_one W o).cell (p := ⟨wr.heap.size, 0, none⟩) hl1).trans ((hb.cell (p := ⟨wr.heap.size, 0, none⟩) hl0).trans h0), ((below_one W o).cell (p := ⟨wr.heap.size, 1, none⟩) hl1).trans ((hb.cell (p := ⟨wr.heap.size, 1, none⟩) hl0).trans h1)⟩
      have HOA : Hid (∀ t0 W, Below (wr.alloc (Obj.cells #[.string gn, .string gt, .int .i64 ga] t0)).heap.size (wr.alloc (Obj.cells #[.string gn, .string gt, .int .i64 ga] t0)) W → ∀ o, OwnX w (W.alloc o) v ts) := Lib.hid fun t0 W hb o => ((HO.out.after (below_one wr _)).after hb).after (below_one W o)
      obtain ⟨r, hr⟩ : ∃ r, findK xs gn = r := ⟨_, rfl⟩
      have hri : hasK xs gn = r.isSome := by rw [← hr, find_has]
      rw [hri] at HNX HYX
      have HF2 : Hid (∀ W, Below w.heap.size w W → Calls Tryz.prog 37 #[.pointer (some ⟨S, 0, none⟩), .string gn] W fun e w' => e = .returned (oAgg r) ∧ Below W.heap.size W w') := Lib.hid fun W hb => by have := HFI.out W gn hb; rw [hr] at this; exact this
      obtain ⟨qk, hqk⟩ : ∃ qk, r.getD kZero = qk := ⟨_, rfl⟩
      obtain ⟨qn, qt, qd, qa, qb, ql⟩ := qk
      unfold oAgg kAgg at HF2
      rw [hqk] at HF2
      obtain ⟨R, hR⟩ : ∃ R, r.isSome = R := ⟨_, rfl⟩
      rw [hR] at HF2 HNX HYX
      have HEB : Hid ((((⟨#[45, 45]⟩ : ByteArray) ++ gn) ++ (⟨#[61]⟩ : ByteArray)) ++ gt = argB ⟨gn, gt, ga⟩) := Lib.hid rfl
      clear htx hri hr hqk hR
      go_wp2_with fail
      refine (HF2.out _ (HBO.out _)).mono ?_
      rintro e w2 ⟨rfl, hb2⟩
      have HB2 := Lib.hid ((HBO.out _).trans (hb2.mono (HBO.out _).size))
      have HO2 := Lib.hid (HOA.out _ _ hb2)
      have k0 : ∀ o, (w2.alloc o).cell? ⟨wr.heap.size, 0, none⟩ = some (.string gn) := fun o => (HGB.out _ _ hb2 o).1
      have k1 : ∀ o, (w2.alloc o).cell? ⟨wr.heap.size, 1, none⟩ = some (.string gt) := fun o => (HGB.out _ _ hb2 o).2
      clear hb2 d0 d1 d2 HGB HOA HF2
      cases R with
      | false =>
        have HF := Lib.hid (HNO.out (w2.alloc (Obj.cells #[.string qn, .int .i64 qt, .string qd, .int .i64 qa, .int .i64 qb, .string ql] 57)) (HB2.out.trans ((below_one w2 _).mono HB2.out.size)) (HNX.out rfl))
        go_wp2
        go_ret2
        exact HF.out
      | true =>
        go_wp2_with (at_builtin; refine appendX (g := w2.heap.size + 1) rfl _ _ rfl (HO2.out _) (by omega) rfl rfl (by simp) ?_; intro y5 c5 w5 ho5; have HO5 : Hid (OwnX w w5 (.slice (some ⟨y5, 0, none⟩) (t + 1) c5) (ts ++ [(((⟨#[45, 45]⟩ : ByteArray) ++ gn) ++ (⟨#[61]⟩ : ByteArray)) ++ gt])) := Lib.hid (hts ▸ ho5); clear ho5)
        go_roundw
        case rel => exact ⟨t + 1, _, ts ++ [(((⟨#[45, 45]⟩ : ByteArray) ++ gn) ++ (⟨#[61]⟩ : ByteArray)) ++ gt], rfl, by go_num, by omega, by simp [hts], Lib.hid (by rw [HTK.out, List.map_append, ← HTS.out, HEB.out]; rfl), Lib.hid (HYX.out (by first | rfl | trivial)), HO5⟩
        case measure => simp [intOf]; omega
    · have hte : t = n := by omega
      subst hte
      have q2 : ¬ (t : Int) < t := by omega
      have HPE : Hid (P = (ts, 0)) := Lib.hid (by
        rw [← HP.out, printA_all (fun k hk => HA.out k hk (by rw [← HN.out]; exact hk)), HTS.out, List.take_of_length_le (by rw [HN.out]; omega)])
      obtain ⟨xv, cv, hv⟩ := own_form HO.out.own
      rw [hts] at hv
      subst hv
      have HF : Hid (PrnA w P (.returned (.tuple #[.slice xv t cv, .int .i64 0])) wr) := Lib.hid ⟨_, by rw [HPE.out], by rw [HPE.out]; exact HO.out⟩
      go_wp2
      go_ret2
      exact HF.out

set_option maxHeartbeats 3200000 in
set_option maxRecDepth 100000 in
theorem frefPrint_any (xs : List KeyV) (S : Nat) (x0 : Option Addr) (c0 : Nat) (gs : List GivV) (x : Option Addr) (c : Nat) (w : World) (hS : SetAt w S x0 c0 xs) (hl : xs.length ≤ 64) (hg : Givs w x gs) (hn : gs.length ≤ 4294967280) (hz : ∀ g ∈ gs, g.name.size ≤ 4294967280 ∧ g.text.size ≤ 4294967280) :
    Calls Tryz.prog 12 #[.pointer (some ⟨S, 0, none⟩), .slice x gs.length c] w (PrnA w (printA xs gs)) := by
  have HFI : Hid (∀ W nm, Below w.heap.size w W → Calls Tryz.prog 38 #[.pointer (some ⟨S, 0, none⟩), .string nm] W fun e w' => e = .returned (oAgg (findK xs nm)) ∧ Below W.heap.size W w') := Lib.hid fun W nm hb => refFind_any xs nm S x0 c0 W (hS.below hb) (by omega)
  have HG := Lib.hid hg
  have HZ := Lib.hid hz
  obtain ⟨P, hP⟩ : ∃ P, printA xs gs = P := ⟨_, rfl⟩
  have HP := Lib.hid hP
  rw [hP]
  obtain ⟨n, hn'⟩ : ∃ n, gs.length = n := ⟨_, rfl⟩
  have HN := Lib.hid hn'
  rw [hn'] at hn ⊢
  have H0 : Hid (OwnX w w (.slice none 0 0) []) := Lib.hid (OwnX.nil_ w)
  have HNO : Hid (∀ W, Below w.heap.size w W → P = ([], 1) → PrnA w P (.returned (.tuple #[.slice none 0 0, .int .i64 1])) W) := Lib.hid fun W hb e => by subst e; exact ⟨_, rfl, World.ownsRow_nil _ _ _ _, hb⟩
  clear hS hg hz hP hn'
  go_enter Tryz.func12, Tryz.ntmps12
  go_wp2
  go_loopw [6, 7] (fun u i wr => ∃ (t : Nat) (v : Value) (ts : List ByteArray), v = u ∧ i = .int .i64 t ∧ t ≤ n ∧ ts.length = t ∧ Hid (ts = (gs.take t).map argB) ∧ Hid (∀ k (hk : k < gs.length), k < t → hasK xs gs[k].name = true) ∧ Hid (OwnX w wr v ts)) (fun _ i _ => n - (intOf i).toNat)
  case atStart => exact ⟨0, _, [], rfl, rfl, by omega, rfl, Lib.hid (by simp), Lib.hid (fun k _ h => absurd h (by omega)), H0⟩
  case round =>
    clear H0
    obtain ⟨t, v, ts, rfl, rfl, ht, hts, HTS, HA, HO⟩ := hrel
    by_cases hlt : t < n
    · have htx : t < gs.length := by rw [HN.out]; exact hlt
      obtain ⟨bx, off, hxe, hxl, d0, d1, d2⟩ := (HG.out.below HO.out.below) t htx
      have hzz := HZ.out _ (List.getElem_mem htx)
      have HTK := Lib.hid (List.take_succ_eq_append_getElem htx)
      have HNX : Hid (hasK xs gs[t].name = false → P = ([], 1)) := Lib.hid fun h => HP.out.symm.trans (printA_no htx h)
      have HYX : Hid (hasK xs gs[t].name = true → ∀ k (hk : k < gs.length), k < t + 1 → hasK xs gs[k].name = true) := Lib.hid fun h k hk hk2 => by
        rcases Nat.lt_or_ge k t with h1 | h1
        · exact HA.out k hk h1
        · obtain rfl : k = t := by omega
          exact h
      generalize gs[t] = g at d0 d1 d2 hzz HTK HNX HYX
      obtain ⟨gn, gt, ga⟩ := g
      simp only at d0 d1 d2 hzz HNX HYX
      obtain ⟨z1, z2⟩ := hzz
      have q1 : (0 : Int) ≤ t := by omega
      have q2 : (t : Int) < n := by omega
      subst hxe
      have j1 : ¬ 9223372036854775807 < 2 + gn.size := by omega
      have j2 : ¬ 9223372036854775807 < 2 + gn.size + 1 := by omega
      have j3 : ¬ 9223372036854775807 < 2 + gn.size + 1 + gt.size := by omega
      have HGB : Hid (∀ W, Below wr.heap.size wr W → W.cell? ⟨bx, off + t * 3, none⟩ = some (.string gn) ∧ W.cell? ⟨bx, off + t * 3 + 1, none⟩ = some (.string gt)) := Lib.hid fun W hb => ⟨(hb.cell (p := ⟨bx, _, none⟩) hxl).trans d0, (hb.cell (p := ⟨bx, _, none⟩) hxl).trans d1⟩
      obtain ⟨r, hr⟩ : ∃ r, findK xs gn = r := ⟨_, rfl⟩
      have hri : hasK xs gn = r.isSome := by rw [← hr, find_has]
      rw [hri] at HNX HYX
      have HF2 : Hid (∀ W, Below w.heap.size w W → Calls Tryz.prog 38 #[.pointer (some ⟨S, 0, none⟩), .string gn] W fun e w' => e = .returned (oAgg r) ∧ Below W.heap.size W w') := Lib.hid fun W hb => by have := HFI.out W gn hb; rw [hr] at this; exact this
      obtain ⟨qk, hqk⟩ : ∃ qk, r.getD kZero = qk := ⟨_, rfl⟩
      obtain ⟨qn, qt, qd, qa, qb, ql⟩ := qk
      unfold oAgg kAgg at HF2
      rw [hqk] at HF2
      obtain ⟨R, hR⟩ : ∃ R, r.isSome = R := ⟨_, rfl⟩
      rw [hR] at HF2 HNX HYX
      have HEB : Hid ((((⟨#[45, 45]⟩ : ByteArray) ++ gn) ++ (⟨#[61]⟩ : ByteArray)) ++ gt = argB ⟨gn, gt, ga⟩) := Lib.hid rfl
      clear htx hri hr hqk hR d2
      go_wp2_with fail
      refine (HF2.out _ HO.out.below).mono ?_
      rintro e w2 ⟨rfl, hb2⟩
      have HB2 := Lib.hid (HO.out.below.trans (hb2.mono HO.out.below.size))
      have HO2 : Hid (∀ o, OwnX w (w2.alloc o) v ts) := Lib.hid fun o => (HO.out.after hb2).after (below_one w2 o)
      have HGC : Hid (∀ o, (w2.alloc o).cell? ⟨bx, off + t * 3, none⟩ = some (.string gn) ∧ (w2.alloc o).cell? ⟨bx, off + t * 3 + 1, none⟩ = some (.string gt)) := Lib.hid fun o => HGB.out _ (hb2.trans ((below_one w2 o).mono hb2.size))
      clear hb2 d0 d1 HF2 HGB
      cases R with
      | false =>
        have HF := Lib.hid (HNO.out (w2.alloc (Obj.cells #[.string qn, .int .i64 qt, .string qd, .int .i64 qa, .int .i64 qb, .string ql] 57)) (HB2.out.trans ((below_one w2 _).mono HB2.out.size)) (HNX.out rfl))
        go_wp2
        go_ret2
        exact HF.out
      | true =>
        go_wp2
        have HO3 := Lib.hid (HO2.out (Obj.cells #[.string qn, .int .i64 qt, .string qd, .int .i64 qa, .int .i64 qb, .string ql] 57))
        obtain ⟨e0, e1⟩ := HGC.out (Obj.cells #[.string qn, .int .i64 qt, .string qd, .int .i64 qa, .int .i64 qb, .string ql] 57)
        clear HO2 HGC HB2
        generalize w2.alloc (Obj.cells #[.string qn, .int .i64 qt, .string qd, .int .i64 qa, .int .i64 qb, .string ql] 57) = w3 at HO3 e0 e1 ⊢
        go_region_law (refine stepX (g := w3.heap.size) rfl _ _ rfl HO3.out rfl (by omega) rfl rfl rfl ?_; intro y5 c5 w5 ho5; have HO5 : Hid (OwnX w w5 (.slice (some ⟨y5, 0, none⟩) (t + 1) c5) (ts ++ [(((⟨#[45, 45]⟩ : ByteArray) ++ gn) ++ (⟨#[61]⟩ : ByteArray)) ++ gt])) := Lib.hid (hts ▸ ho5); clear ho5)
        all_goals
          go_wp2
          go_roundw
          case rel => exact ⟨t + 1, _, ts ++ [(((⟨#[45, 45]⟩ : ByteArray) ++ gn) ++ (⟨#[61]⟩ : ByteArray)) ++ gt], rfl, by go_num, by omega, by simp [hts], Lib.hid (by rw [HTK.out, List.map_append, ← HTS.out, HEB.out]; rfl), Lib.hid (HYX.out (by first | rfl | trivial)), HO5⟩
          case measure => simp [intOf]; omega
    · have hte : t = n := by omega
      subst hte
      have q2 : ¬ (t : Int) < t := by omega
      have HPE : Hid (P = (ts, 0)) := Lib.hid (by
        rw [← HP.out, printA_all (fun k hk => HA.out k hk (by rw [← HN.out]; exact hk)), HTS.out, List.take_of_length_le (by rw [HN.out]; omega)])
      obtain ⟨xv, cv, hv⟩ := own_form HO.out.own
      rw [hts] at hv
      subst hv
      have HF : Hid (PrnA w P (.returned (.tuple #[.slice xv t cv, .int .i64 0])) wr) := Lib.hid ⟨_, by rw [HPE.out], by rw [HPE.out]; exact HO.out⟩
      go_wp2
      go_ret2
      exact HF.out
end Go.Proofs.YtbgoooljkdjjhaaGreatDoor
