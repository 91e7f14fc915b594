/-
  The walks of the document's own Find, Letter and All over a list of definitions, and of the law's 'same'.
-/
import Derived.Test.YtoembdolncbbiaaDoorKeyFinds
import Derived.Laws.StructEq
namespace Go.Proofs.YtoembdolncbbiaaDoor
open Go.ChangeShapes Go.WideShapes Go.ChangeAt Go.RowKit

theorem neq_self (k : KeyV) (w : World) : (binOp .neq 54 (.agg #[.string k.name, .int .i64 k.kind, .string k.dflt, .int .i64 k.least, .int .i64 k.most, .string k.letter]) (.agg #[.string k.name, .int .i64 k.kind, .string k.dflt, .int .i64 k.least, .int .i64 k.most, .string k.letter])).run Tryd.prog w = .ok (.bool false) w := by
  have u3 := Tryd.underlying3
  have u9 := Tryd.underlying9
  have hS : Tryd.prog.underlying 54 = some (.struct (Tryd.prog.fieldsOf 54)) := by kernel_rfl
  have hp : Tryd.prog.stoodInHeld 54 = false := by kernel_rfl
  rw [run_neq_struct, show (10000 : Nat) = 9999 + 1 from rfl, run_equalIn_agg w 9999 54 _ _ hS hp]
  simp only [Program.fieldsOf, Tryd.underlying54]
  go_simp
theorem neq_guard (x y : Operand) (xs ys : Array Value) (w : World) : (eqGuard .neq 54 x y (.agg xs) (.agg ys)).run Tryd.prog w = .ok () w :=
  run_eqGuard_agg w .neq 54 x y xs ys (by kernel_rfl)

set_option maxHeartbeats 1600000 in
set_option maxRecDepth 100000 in
theorem ksame_any (xs : List KeyV) (a b c d : Nat) (w : World) (ha : Keys w (some ⟨a, 0, none⟩) xs) (hb : Keys w (some ⟨b, 0, none⟩) xs) (hn : xs.length ≤ 1000000) :
    Calls Tryd.prog 27 #[.slice (some ⟨a, 0, none⟩) xs.length c, .slice (some ⟨b, 0, none⟩) xs.length d] w fun e w' => e = .returned (.bool true) ∧ Below w.heap.size w w' := by
  have HA := Lib.hid ha
  have HB := Lib.hid hb
  obtain ⟨n, hn'⟩ : ∃ n, xs.length = n := ⟨_, rfl⟩
  have HN := Lib.hid hn'
  rw [hn'] at hn ⊢
  clear ha hb hn'
  go_enter Tryd.func27, Tryd.ntmps27
  go_wp2
  go_loopw [5] (fun i wr => ∃ t : Nat, i = .int .i64 t ∧ t ≤ n ∧ Hid (Below w.heap.size w wr)) (fun i _ => n - (intOf i).toNat)
  case atStart => exact ⟨0, rfl, by omega, Lib.hid (Below.refl _ _)⟩
  case round =>
    obtain ⟨t, rfl, ht, HK⟩ := hrel
    by_cases hlt : t < n
    · have htx : t < xs.length := by rw [HN.out]; exact hlt
      obtain ⟨a', ea, hal, a0, a1, a2, a3, a4, a5⟩ := (HA.out.below HK.out) t htx
      obtain ⟨b', eb, hbl, b0, b1, b2, b3, b4, b5⟩ := (HB.out.below HK.out) t htx
      have ea : a = a' := by simpa using ea
      have eb : b = b' := by simpa using eb
      subst ea eb
      generalize xs[t] = k at a0 a1 a2 a3 a4 a5 b0 b1 b2 b3 b4 b5
      have hne := neq_self k
      have hgd := neq_guard
      obtain ⟨kn, kk, kd, kl, km, kt⟩ := k
      simp only at a0 a1 a2 a3 a4 a5 b0 b1 b2 b3 b4 b5 hne
      have q1 : (0 : Int) ≤ t := by omega
      have q2 : (t : Int) < n := by omega
      have HD := Lib.hid (HK.out.trans ((below_drewN wr 1).mono HK.out.size))
      clear htx
      go_wp2
      go_region
      all_goals
        go_wp2
        go_roundw
        case rel => exact ⟨t + 1, by go_num, by omega, HD⟩
        case measure => simp [intOf]; omega
    · have q2 : ¬ (t : Int) < n := by omega
      go_wp2
      go_ret
      exact ⟨rfl, HK.out⟩

set_option maxHeartbeats 1600000 in
set_option maxRecDepth 100000 in
theorem refFind_any (xs : List KeyV) (nm : ByteArray) (S : Nat) (x : Option Addr) (c : Nat) (w : World) (h : SetAt w S x c xs) (hn : xs.length ≤ 1000000) :
    Calls Tryd.prog 30 #[.pointer (some ⟨S, 0, none⟩), .string nm] w fun e w' => e = .returned (oAgg (findK xs nm)) ∧ Below w.heap.size w w' := by
  have HS := Lib.hid h
  have HZ : Hid (∀ t, Box6 (w.alloc (Obj.cells #[.string ⟨#[]⟩, .int .i64 0, .string ⟨#[]⟩, .int .i64 0, .int .i64 0, .string ⟨#[]⟩] t)) w.heap.size kZero ∧ Below w.heap.size w (w.alloc (Obj.cells #[.string ⟨#[]⟩, .int .i64 0, .string ⟨#[]⟩, .int .i64 0, .int .i64 0, .string ⟨#[]⟩] t))) := Lib.hid fun t => ⟨box6_new w kZero t, below_one w _⟩
  have HD : Hid (findK (xs.drop 0) nm = findK xs nm) := Lib.hid rfl
  obtain ⟨r, hr⟩ : ∃ r, findK xs nm = r := ⟨_, rfl⟩
  rw [hr] at HD ⊢
  obtain ⟨n, hn'⟩ : ∃ n, xs.length = n := ⟨_, rfl⟩
  have HN := Lib.hid hn'
  rw [hn'] at hn
  clear h hr
  go_enter Tryd.func30, Tryd.ntmps30
  go_wp2
  go_loopw [6] (fun i wr => ∃ t : Nat, i = .int .i64 t ∧ t ≤ n ∧ Hid (Below w.heap.size w wr ∧ Box6 wr w.heap.size kZero ∧ findK (xs.drop t) nm = r)) (fun i _ => n - (intOf i).toNat)
  case atStart => exact ⟨0, rfl, by omega, Lib.hid ⟨(HZ.out _).2, (HZ.out _).1, HD.out⟩⟩
  case round =>
    clear HD HZ
    obtain ⟨t, rfl, ht, HK⟩ := hrel
    have hcell := (HS.out.below HK.out.1).cell
    rw [hn'] at hcell
    by_cases hlt : t < n
    · have htx : t < xs.length := by rw [HN.out]; exact hlt
      obtain ⟨b, hxe, hbl, c0, c1, c2, c3, c4, c5⟩ := (HS.out.keys.below HK.out.1) t htx
      have hd := find_drop (nm := nm) htx
      generalize xs[t] = k at c0 c1 c2 c3 c4 c5 hd
      obtain ⟨kn, kk, kd, kl, km, kt⟩ := k
      simp only at c0 c1 c2 c3 c4 c5
      have HE := Lib.hid (HK.out.2.2.symm.trans hd)
      have q1 : (0 : Int) ≤ t := by omega
      have q2 : (t : Int) < n := by omega
      subst hxe
      clear hd htx hn'
      by_cases hl : kn = nm
      · have HR : Hid (r = some ⟨kn, kk, kd, kl, km, kt⟩) := Lib.hid (by
          have h1 := HE.out
          rw [if_pos (decide_eq_true hl)] at h1
          exact h1)
        subst hl
        clear HE
        have HS6 : Hid (Box6 (set6 wr w.heap.size ⟨kn, kk, kd, kl, km, kt⟩) w.heap.size ⟨kn, kk, kd, kl, km, kt⟩ ∧ Below w.heap.size w (set6 wr w.heap.size ⟨kn, kk, kd, kl, km, kt⟩)) := Lib.hid ⟨HK.out.2.1.set6 _, below_set6 HK.out.1 (Nat.le_refl _) _⟩
        obtain ⟨b0, b1, b2, b3, b4, b5, bf⟩ := HK.out.2.1
        have f0 := bf 0 (by decide)
        have f1 := bf 1 (by decide)
        have f2 := bf 2 (by decide)
        have f3 := bf 3 (by decide)
        have f4 := bf 4 (by decide)
        have f5 := bf 5 (by decide)
        obtain ⟨g0, g1, g2, g3, g4, g5, _⟩ := HS6.out.1
        have HF := Lib.hid HS6.out.2
        unfold kZero at b0 b1 b2 b3 b4 b5
        unfold set6 at g0 g1 g2 g3 g4 g5 HF
        simp only at b0 b1 b2 b3 b4 b5 g0 g1 g2 g3 g4 g5 HF
        clear bf HS6
        go_wp2
        exact bodyPost_ret (v := .tuple #[.agg #[.string kn, .int .i64 kk, .string kd, .int .i64 kl, .int .i64 km, .string kt], .bool true]) (by simp [results, Tryd.results30, go_sem, g0, g1, g2, g3, g4, g5]) rfl ⟨ret_val (by rw [HR.out]; rfl), HF.out⟩
      · have HN2 : Hid (findK (xs.drop (t + 1)) nm = r) := Lib.hid (by
          have h1 := HE.out
          rw [if_neg (by rw [decide_eq_true_eq]; exact hl)] at h1
          exact h1.symm)
        have d3 : (kn.toList == nm.toList) = false := beq_eq_false_iff_ne.2 (fun h => hl (toList_inj h))
        clear HE hl
        go_wp2
        go_roundw
        case rel => exact ⟨t + 1, by go_num, by omega, Lib.hid ⟨HK.out.1, HK.out.2.1, HN2.out⟩⟩
        case measure => simp [intOf]; omega
    · have HR : Hid (r = none) := Lib.hid (by
        have h1 := HK.out.2.2
        rw [List.drop_eq_nil_of_le (by rw [HN.out]; omega)] at h1
        exact h1.symm)
      have q2 : ¬ (t : Int) < n := by omega
      have HS6 : Hid (Box6 (set6 wr w.heap.size kZero) w.heap.size kZero ∧ Below w.heap.size w (set6 wr w.heap.size kZero)) := Lib.hid ⟨HK.out.2.1.set6 _, below_set6 HK.out.1 (Nat.le_refl _) _⟩
      obtain ⟨b0, b1, b2, b3, b4, b5, bf⟩ := HK.out.2.1
      have f0 := bf 0 (by decide)
      have f1 := bf 1 (by decide)
      have f2 := bf 2 (by decide)
      have f3 := bf 3 (by decide)
      have f4 := bf 4 (by decide)
      have f5 := bf 5 (by decide)
      obtain ⟨g0, g1, g2, g3, g4, g5, _⟩ := HS6.out.1
      have HF := Lib.hid HS6.out.2
      unfold kZero at b0 b1 b2 b3 b4 b5
      unfold set6 kZero at g0 g1 g2 g3 g4 g5 HF
      simp only at b0 b1 b2 b3 b4 b5 g0 g1 g2 g3 g4 g5 HF
      clear bf HS6 hn'
      go_wp2
      exact bodyPost_ret (v := .tuple #[.agg #[.string ⟨#[]⟩, .int .i64 0, .string ⟨#[]⟩, .int .i64 0, .int .i64 0, .string ⟨#[]⟩], .bool false]) (by simp [results, Tryd.results30, go_sem, g0, g1, g2, g3, g4, g5]) rfl ⟨ret_val (by rw [HR.out]; rfl), HF.out⟩
theorem letter_none (xs : List KeyV) : letterK xs ⟨#[]⟩ = none := by
  unfold letterK
  rw [List.find?_eq_none]
  intro k _
  unfold letterB
  by_cases hk : k.letter = ⟨#[]⟩
  · rw [decide_eq_true hk]; simp
  · rw [decide_eq_false hk]; simp
set_option maxHeartbeats 1600000 in
set_option maxRecDepth 100000 in
theorem refLetter_any (xs : List KeyV) (nm : ByteArray) (S : Nat) (x : Option Addr) (c : Nat) (w : World) (h : SetAt w S x c xs) (hn : xs.length ≤ 1000000) :
    Calls Tryd.prog 32 #[.pointer (some ⟨S, 0, none⟩), .string nm] w fun e w' => e = .returned (oAgg (letterK xs nm)) ∧ Below w.heap.size w w' := by
  have HS := Lib.hid h
  have HZ : Hid (∀ t, Box6 (w.alloc (Obj.cells #[.string ⟨#[]⟩, .int .i64 0, .string ⟨#[]⟩, .int .i64 0, .int .i64 0, .string ⟨#[]⟩] t)) w.heap.size kZero ∧ Below w.heap.size w (w.alloc (Obj.cells #[.string ⟨#[]⟩, .int .i64 0, .string ⟨#[]⟩, .int .i64 0, .int .i64 0, .string ⟨#[]⟩] t))) := Lib.hid fun t => ⟨box6_new w kZero t, below_one w _⟩
  have HD : Hid (letterK (xs.drop 0) nm = letterK xs nm) := Lib.hid rfl
  obtain ⟨r, hr⟩ : ∃ r, letterK xs nm = r := ⟨_, rfl⟩
  have HRR := Lib.hid hr
  rw [hr] at HD ⊢
  obtain ⟨n, hn'⟩ : ∃ n, xs.length = n := ⟨_, rfl⟩
  have HN := Lib.hid hn'
  rw [hn'] at hn
  clear h hr
  go_enter Tryd.func32, Tryd.ntmps32
  go_wp2
  go_loopw [6] (fun i wr => ∃ t : Nat, i = .int .i64 t ∧ t ≤ n ∧ Hid (Below w.heap.size w wr ∧ Box6 wr w.heap.size kZero ∧ letterK (xs.drop t) nm = r)) (fun i _ => n - (intOf i).toNat)
  case atStart => exact ⟨0, rfl, by omega, Lib.hid ⟨(HZ.out _).2, (HZ.out _).1, HD.out⟩⟩
  case round =>
    clear HD HZ
    obtain ⟨t, rfl, ht, HK⟩ := hrel
    have hcell := (HS.out.below HK.out.1).cell
    rw [hn'] at hcell
    by_cases hem : nm = ⟨#[]⟩
    · have HR : Hid (r = none) := Lib.hid (by rw [← HRR.out, hem]; exact letter_none xs)
      subst hem
      by_cases hlt : t < n
      · have q1 : (t : Int) < n := by omega
        have HS6 : Hid (Box6 (set6 wr w.heap.size kZero) w.heap.size kZero ∧ Below w.heap.size w (set6 wr w.heap.size kZero)) := Lib.hid ⟨HK.out.2.1.set6 _, below_set6 HK.out.1 (Nat.le_refl _) _⟩
        obtain ⟨b0, b1, b2, b3, b4, b5, bf⟩ := HK.out.2.1
        have f0 := bf 0 (by decide)
        have f1 := bf 1 (by decide)
        have f2 := bf 2 (by decide)
        have f3 := bf 3 (by decide)
        have f4 := bf 4 (by decide)
        have f5 := bf 5 (by decide)
        obtain ⟨g0, g1, g2, g3, g4, g5, _⟩ := HS6.out.1
        have HF := Lib.hid HS6.out.2
        unfold kZero at b0 b1 b2 b3 b4 b5
        unfold set6 kZero at g0 g1 g2 g3 g4 g5 HF
        simp only at b0 b1 b2 b3 b4 b5 g0 g1 g2 g3 g4 g5 HF
        clear bf HS6 hn'
        go_wp2
        exact bodyPost_ret (v := .tuple #[.agg #[.string ⟨#[]⟩, .int .i64 0, .string ⟨#[]⟩, .int .i64 0, .int .i64 0, .string ⟨#[]⟩], .bool false]) (by simp [results, Tryd.results32, go_sem, g0, g1, g2, g3, g4, g5]) rfl ⟨ret_val (by rw [HR.out]; rfl), HF.out⟩
      · have q2 : ¬ (t : Int) < n := by omega
        have HS6 : Hid (Box6 (set6 wr w.heap.size kZero) w.heap.size kZero ∧ Below w.heap.size w (set6 wr w.heap.size kZero)) := Lib.hid ⟨HK.out.2.1.set6 _, below_set6 HK.out.1 (Nat.le_refl _) _⟩
        obtain ⟨b0, b1, b2, b3, b4, b5, bf⟩ := HK.out.2.1
        have f0 := bf 0 (by decide)
        have f1 := bf 1 (by decide)
        have f2 := bf 2 (by decide)
        have f3 := bf 3 (by decide)
        have f4 := bf 4 (by decide)
        have f5 := bf 5 (by decide)
        obtain ⟨g0, g1, g2, g3, g4, g5, _⟩ := HS6.out.1
        have HF := Lib.hid HS6.out.2
        unfold kZero at b0 b1 b2 b3 b4 b5
        unfold set6 kZero at g0 g1 g2 g3 g4 g5 HF
        simp only at b0 b1 b2 b3 b4 b5 g0 g1 g2 g3 g4 g5 HF
        clear bf HS6 hn'
        go_wp2
        exact bodyPost_ret (v := .tuple #[.agg #[.string ⟨#[]⟩, .int .i64 0, .string ⟨#[]⟩, .int .i64 0, .int .i64 0, .string ⟨#[]⟩], .bool false]) (by simp [results, Tryd.results32, go_sem, g0, g1, g2, g3, g4, g5]) rfl ⟨ret_val (by rw [HR.out]; rfl), HF.out⟩
    have d0 : nm.toList.isEmpty = false := emp_false' (fun h => hem (by rw [← mkB_self nm, h]; rfl))
    have HEM := Lib.hid hem
    clear hem
    by_cases hlt : t < n
    · have htx : t < xs.length := by rw [HN.out]; exact hlt
      obtain ⟨b, hxe, hbl, c0, c1, c2, c3, c4, c5⟩ := (HS.out.keys.below HK.out.1) t htx
      have hd := letter_drop (l := nm) htx
      generalize xs[t] = k at c0 c1 c2 c3 c4 c5 hd
      obtain ⟨kn, kk, kd, kl, km, kt⟩ := k
      simp only at c0 c1 c2 c3 c4 c5
      have HE := Lib.hid (HK.out.2.2.symm.trans hd)
      have q1 : (0 : Int) ≤ t := by omega
      have q2 : (t : Int) < n := by omega
      subst hxe
      clear hd htx hn'
      by_cases hl : kt = nm
      · have HR : Hid (r = some ⟨kn, kk, kd, kl, km, kt⟩) := Lib.hid (by
          have h1 := HE.out
          rw [show letterB nm ⟨kn, kk, kd, kl, km, kt⟩ = true by unfold letterB; rw [decide_eq_false (by show ¬ kt = _; rw [hl]; exact HEM.out), decide_eq_true hl]; rfl] at h1
          exact h1)
        subst hl
        clear HE
        have HS6 : Hid (Box6 (set6 wr w.heap.size ⟨kn, kk, kd, kl, km, kt⟩) w.heap.size ⟨kn, kk, kd, kl, km, kt⟩ ∧ Below w.heap.size w (set6 wr w.heap.size ⟨kn, kk, kd, kl, km, kt⟩)) := Lib.hid ⟨HK.out.2.1.set6 _, below_set6 HK.out.1 (Nat.le_refl _) _⟩
        obtain ⟨b0, b1, b2, b3, b4, b5, bf⟩ := HK.out.2.1
        have f0 := bf 0 (by decide)
        have f1 := bf 1 (by decide)
        have f2 := bf 2 (by decide)
        have f3 := bf 3 (by decide)
        have f4 := bf 4 (by decide)
        have f5 := bf 5 (by decide)
        obtain ⟨g0, g1, g2, g3, g4, g5, _⟩ := HS6.out.1
        have HF := Lib.hid HS6.out.2
        unfold kZero at b0 b1 b2 b3 b4 b5
        unfold set6 at g0 g1 g2 g3 g4 g5 HF
        simp only at b0 b1 b2 b3 b4 b5 g0 g1 g2 g3 g4 g5 HF
        clear bf HS6
        go_wp2
        exact bodyPost_ret (v := .tuple #[.agg #[.string kn, .int .i64 kk, .string kd, .int .i64 kl, .int .i64 km, .string kt], .bool true]) (by simp [results, Tryd.results32, go_sem, g0, g1, g2, g3, g4, g5]) rfl ⟨ret_val (by rw [HR.out]; rfl), HF.out⟩
      · have HN2 : Hid (letterK (xs.drop (t + 1)) nm = r) := Lib.hid (by
          have h1 := HE.out
          rw [show letterB nm ⟨kn, kk, kd, kl, km, kt⟩ = false by unfold letterB; rw [decide_eq_false hl, Bool.and_false]] at h1
          exact h1.symm)
        have d3 : (kt.toList == nm.toList) = false := beq_eq_false_iff_ne.2 (fun h => hl (toList_inj h))
        clear HE hl
        go_wp2
        go_roundw
        case rel => exact ⟨t + 1, by go_num, by omega, Lib.hid ⟨HK.out.1, HK.out.2.1, HN2.out⟩⟩
        case measure => simp [intOf]; omega
    · have HR : Hid (r = none) := Lib.hid (by
        have h1 := HK.out.2.2
        rw [List.drop_eq_nil_of_le (by rw [HN.out]; omega)] at h1
        exact h1.symm)
      have q2 : ¬ (t : Int) < n := by omega
      have HS6 : Hid (Box6 (set6 wr w.heap.size kZero) w.heap.size kZero ∧ Below w.heap.size w (set6 wr w.heap.size kZero)) := Lib.hid ⟨HK.out.2.1.set6 _, below_set6 HK.out.1 (Nat.le_refl _) _⟩
      obtain ⟨b0, b1, b2, b3, b4, b5, bf⟩ := HK.out.2.1
      have f0 := bf 0 (by decide)
      have f1 := bf 1 (by decide)
      have f2 := bf 2 (by decide)
      have f3 := bf 3 (by decide)
      have f4 := bf 4 (by decide)
      have f5 := bf 5 (by decide)
      obtain ⟨g0, g1, g2, g3, g4, g5, _⟩ := HS6.out.1
      have HF := Lib.hid HS6.out.2
      unfold kZero at b0 b1 b2 b3 b4 b5
      unfold set6 kZero at g0 g1 g2 g3 g4 g5 HF
      simp only at b0 b1 b2 b3 b4 b5 g0 g1 g2 g3 g4 g5 HF
      clear bf HS6 hn'
      go_wp2
      exact bodyPost_ret (v := .tuple #[.agg #[.string ⟨#[]⟩, .int .i64 0, .string ⟨#[]⟩, .int .i64 0, .int .i64 0, .string ⟨#[]⟩], .bool false]) (by simp [results, Tryd.results32, go_sem, g0, g1, g2, g3, g4, g5]) rfl ⟨ret_val (by rw [HR.out]; rfl), HF.out⟩
theorem Keys.name {w : World} {g : Nat} {xs : List KeyV} (h : Keys w (some ⟨g, 0, none⟩) xs) (i : Nat) (hi : i < xs.length) : w.cell? ⟨g, i * 6, none⟩ = some (.string xs[i].name) := by
  obtain ⟨a, ea, _, a0, _⟩ := h i hi
  have ea : g = a := by simpa using ea
  rw [ea]; exact a0
theorem less_cmp : ∀ a b : List UInt8, Op.bytesLess a b = decide (Lib.compareBytes a b < 0)
  | [], [] => rfl
  | [], _ :: _ => rfl
  | _ :: _, [] => rfl
  | x :: a, y :: b => by
    unfold Op.bytesLess Lib.compareBytes
    by_cases h1 : x < y
    · simp [h1]
    · by_cases h2 : y < x
      · have h3 : ¬ x = y := fun e => by subst e; exact h1 h2
        simp [h1, h2, h3]
      · have h3 : x = y := UInt8.le_antisymm (UInt8.not_lt.1 h2) (UInt8.not_lt.1 h1)
        subst h3
        simp [h1, less_cmp a b]
theorem less_no {xs : List KeyV} (hs : Sorted xs) {t : Nat} (ht : t + 1 < xs.length) : Op.bytesLess (xs[t + 1]).name.toList (xs[t]'(Nat.lt_of_succ_lt ht)).name.toList = false := by
  have h := hs t (t + 1) ht (Nat.lt_succ_self _)
  rw [cmpB_anti] at h
  rw [toList_eq, toList_eq, less_cmp]
  exact decide_eq_false (by show ¬ cmpB _ _ < 0; omega)
set_option maxHeartbeats 1600000 in
set_option maxRecDepth 100000 in
theorem refAll_any (xs : List KeyV) (S : Nat) (x : Option Addr) (c : Nat) (w : World) (h : SetAt w S x c xs) (h0 : 0 < xs.length) (hs : Sorted xs) (hn : xs.length ≤ 1000000) :
    Calls Tryd.prog 28 #[.pointer (some ⟨S, 0, none⟩)] w (InsRes w xs) := by
  have hc := h.cell
  obtain ⟨b, hxe⟩ : ∃ b, x = some ⟨b, 0, none⟩ := by obtain ⟨b, hxe, _⟩ := h.keys 0 h0; exact ⟨b, hxe⟩
  subst hxe
  obtain ⟨c', cur, hr, h1, h2', h3⟩ := first_run w b 0 xs.length c (flat xs) (flat_len xs) (fun j v hv => by rw [Nat.zero_add]; exact h.keys.flat j v hv) h0 hn
  have HE : Hid (InsRes w xs (.returned (.slice (some ⟨w.heap.size, 0, none⟩) xs.length c')) (w.drew.alloc (.cells cur 54))) := Lib.hid
    ⟨_, c', rfl, Nat.le_refl _, h1, Keys.of_block (t := 54) (fr := (0, 0)) (heap_alloc_new w.drew _) h3, below_drew_alloc w _⟩
  have HR := Lib.hid hr
  have HQ := Lib.hid hs
  obtain ⟨n, hn'⟩ : ∃ n, xs.length = n := ⟨_, rfl⟩
  have HN := Lib.hid hn'
  rw [hn'] at hn h0 hc HR
  clear hr h h3 hn' hs h1 h2'
  go_enter Tryd.func28, Tryd.ntmps28
  go_wp2_with (at_builtin; refine wpList_append_eq rfl _ _ _ _ rfl _ _ _ rfl rfl (HR.out _) ?_)
  refine gen_world (fun W => InsRes w xs (.returned (.slice (some ⟨w.heap.size, 0, none⟩) n c')) W) (by have := HE.out; rw [HN.out] at this; exact this) ?_
  intro wa hA
  have HA := Lib.hid hA
  clear hA HE HR
  go_loopw [4, 5, 6] (fun i _ _ wr => ∃ t : Nat, i = .int .i64 t ∧ 1 ≤ t ∧ t ≤ n + 1 ∧ Hid (InsRes w xs (.returned (.slice (some ⟨w.heap.size, 0, none⟩) n c')) wr)) (fun i _ _ _ => n + 1 - (intOf i).toNat)
  case atStart => exact ⟨1, rfl, by omega, by omega, HA⟩
  case round =>
    clear HA
    obtain ⟨t, rfl, ht1, ht, HK⟩ := hrel
    by_cases hlt : t < n
    · obtain ⟨q, rfl⟩ : ∃ q, t = q + 1 := ⟨t - 1, by omega⟩
      have hq2 : q + 1 < xs.length := by rw [HN.out]; exact hlt
      have HKE : Hid (Keys wr (some ⟨w.heap.size, 0, none⟩) xs) := Lib.hid (by
        obtain ⟨g, c2, e, _, _, hk, _⟩ := HK.out
        have e2 : w.heap.size = g := by injection e with e; injection e with e _ _; simpa using e
        subst e2; exact hk)
      have a0 := HKE.out.name (q + 1) hq2
      have b0 := HKE.out.name q (Nat.lt_of_succ_lt hq2)
      have hl := less_no HQ.out hq2
      generalize (xs[q + 1]).name = kb at a0 hl
      generalize (xs[q]).name = ka at b0 hl
      have HK2 : Hid (InsRes w xs (.returned (.slice (some ⟨w.heap.size, 0, none⟩) n c')) wr.drew) := Lib.hid (by
        obtain ⟨g, c2, e, h1, h2, hk, hb⟩ := HK.out
        exact ⟨g, c2, e, h1, h2, hk.below (below_drewN wr 1), hb.trans ((below_drewN wr 1).mono hb.size)⟩)
      have r1 : ((q + 1 : Nat) : Int) < n := by omega
      have r2 : (0 : Int) ≤ q := by omega
      have r3 : (q : Int) < n := by omega
      have r4 : (0 : Int) < ((q + 1 : Nat) : Int) := by omega
      have r5 : (0 : Int) ≤ ((q + 1 : Nat) : Int) := by omega
      have r6 : ((q + 1 : Nat) : Int) - 1 = q := by omega
      generalize hG : w.heap.size = G at *
      clear hq2 HKE
      obtain ⟨wo, rfl⟩ : ∃ wo : World, wo = wr := ⟨_, rfl⟩
      go_wp2
      go_loopw [5, 6] (fun j _ wq => j = .int .i64 ((q + 1 : Nat) : Int) ∧ Hid (wq = wo)) (fun _ _ _ => 0)
      case atStart => exact ⟨rfl, Lib.hid rfl⟩
      case round =>
        obtain ⟨rfl, hw⟩ := hrel
        obtain rfl := hw.out
        go_wp2
        go_region
        go_wp2
        go_roundw
        case rel => exact ⟨q + 1 + 1, by go_num, by omega, by omega, HK2⟩
        case measure => simp [intOf]; omega
    · have e : t = n ∨ t = n + 1 := by omega
      have q2 : ¬ (t : Int) < n := by omega
      have HE : Hid (InsRes w xs (.returned (.slice (some ⟨w.heap.size, 0, none⟩) n c')) wr) := HK
      go_wp2
      go_ret
      exact HE.out
end Go.Proofs.YtoembdolncbbiaaDoor
