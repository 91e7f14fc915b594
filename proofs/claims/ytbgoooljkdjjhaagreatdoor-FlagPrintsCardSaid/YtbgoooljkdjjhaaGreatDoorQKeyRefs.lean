/-
  KeyRefs.
-/
import Derived.Test.YtbgoooljkdjjhaaGreatDoorQKeyFinds
import Derived.Laws.StructEq
namespace Go.Proofs.YtbgoooljkdjjhaaGreatDoor
open Go.ChangeShapes Go.WideShapes Go.ChangeAt Go.RowKit

theorem neq_self (k : KeyV) (w : World) : (binOp .neq 57 (.agg #[.string k.name, .int .i64 k.kind, .string k.dflt, .int .i64 k.least, .int .i64 k.most, .string k.letter]) (.agg #[.string k.name, .int .i64 k.kind, .string k.dflt, .int .i64 k.least, .int .i64 k.most, .string k.letter])).run Tryz.prog w = .ok (.bool false) w := by
  have u3 := Tryz.underlying3
  have u9 := Tryz.underlying9
  have hS : Tryz.prog.underlying 57 = some (.struct (Tryz.prog.fieldsOf 57)) := by kernel_rfl
  have hp : Tryz.prog.stoodInHeld 57 = false := by kernel_rfl
  rw [run_neq_struct, show (10000 : Nat) = 9999 + 1 from rfl, run_equalIn_agg w 9999 57 _ _ hS hp]
  simp only [Program.fieldsOf, Tryz.underlying57]
  go_simp
theorem neq_guard (x y : Operand) (xs ys : Array Value) (w : World) : (eqGuard .neq 57 x y (.agg xs) (.agg ys)).run Tryz.prog w = .ok () w :=
  run_eqGuard_agg w .neq 57 x y xs ys (by kernel_rfl)

set_option maxHeartbeats 1600000 in
set_option maxRecDepth 100000 in
theorem refFind_any (xs : List KeyV) (nm : ByteArray) (S : Nat) (x : Option Addr) (c : Nat) (w : World) (h : SetAt w S x c xs) (hn : xs.length ≤ 1000000) :
    Calls Tryz.prog 38 #[.pointer (some ⟨S, 0, none⟩), .string nm] w fun e w' => e = .returned (oAgg (findK xs nm)) ∧ Below w.heap.size w w' := by
  have HS := Lib.hid h
  have HZ : Hid (∀ t, Box6 (w.alloc (Obj.cells #[.string ⟨#[]⟩, .int .i64 0, .string ⟨#[]⟩, .int .i64 0, .int .i64 0, .string ⟨#[]⟩] t)) w.heap.size kZero ∧ Below w.heap.size w (w.alloc (Obj.cells #[.string ⟨#[]⟩, .int .i64 0, .string ⟨#[]⟩, .int .i64 0, .int .i64 0, .string ⟨#[]⟩] t))) := Lib.hid fun t => ⟨box6_new w kZero t, below_one w _⟩
  have HD : Hid (findK (xs.drop 0) nm = findK xs nm) := Lib.hid rfl
  obtain ⟨r, hr⟩ : ∃ r, findK xs nm = r := ⟨_, rfl⟩
  rw [hr] at HD ⊢
  obtain ⟨n, hn'⟩ : ∃ n, xs.length = n := ⟨_, rfl⟩
  have HN := Lib.hid hn'
  rw [hn'] at hn
  clear h hr
  go_enter Tryz.func38, Tryz.ntmps38
  go_wp2
  go_loopw [6] (fun i wr => ∃ t : Nat, i = .int .i64 t ∧ t ≤ n ∧ Hid (Below w.heap.size w wr ∧ Box6 wr w.heap.size kZero ∧ findK (xs.drop t) nm = r)) (fun i _ => n - (intOf i).toNat)
  case atStart => exact ⟨0, rfl, by omega, Lib.hid ⟨(HZ.out _).2, (HZ.out _).1, HD.out⟩⟩
  case round =>
    clear HD HZ
    obtain ⟨t, rfl, ht, HK⟩ := hrel
    have hcell := (HS.out.below HK.out.1).cell
    rw [hn'] at hcell
    by_cases hlt : t < n
    · have htx : t < xs.length := by rw [HN.out]; exact hlt
      obtain ⟨b, hxe, hbl, c0, c1, c2, c3, c4, c5⟩ := (HS.out.keys.below HK.out.1) t htx
      have hd := find_drop (nm := nm) htx
      generalize xs[t] = k at c0 c1 c2 c3 c4 c5 hd
      obtain ⟨kn, kk, kd, kl, km, kt⟩ := k
      simp only at c0 c1 c2 c3 c4 c5
      have HE := Lib.hid (HK.out.2.2.symm.trans hd)
      have q1 : (0 : Int) ≤ t := by omega
      have q2 : (t : Int) < n := by omega
      subst hxe
      clear hd htx hn'
      by_cases hl : kn = nm
      · have HR : Hid (r = some ⟨kn, kk, kd, kl, km, kt⟩) := Lib.hid (by
          have h1 := HE.out
          rw [if_pos (decide_eq_true hl)] at h1
          exact h1)
        subst hl
        clear HE
        have HS6 : Hid (Box6 (set6 wr w.heap.size ⟨kn, kk, kd, kl, km, kt⟩) w.heap.size ⟨kn, kk, kd, kl, km, kt⟩ ∧ Below w.heap.size w (set6 wr w.heap.size ⟨kn, kk, kd, kl, km, kt⟩)) := Lib.hid ⟨HK.out.2.1.set6 _, below_set6 HK.out.1 (Nat.le_refl _) _⟩
        obtain ⟨b0, b1, b2, b3, b4, b5, bf⟩ := HK.out.2.1
        have f0 := bf 0 (by decide)
        have f1 := bf 1 (by decide)
        have f2 := bf 2 (by decide)
        have f3 := bf 3 (by decide)
        have f4 := bf 4 (by decide)
        have f5 := bf 5 (by decide)
        obtain ⟨g0, g1, g2, g3, g4, g5, _⟩ := HS6.out.1
        have HF := Lib.hid HS6.out.2
        unfold kZero at b0 b1 b2 b3 b4 b5
        unfold set6 at g0 g1 g2 g3 g4 g5 HF
        simp only at b0 b1 b2 b3 b4 b5 g0 g1 g2 g3 g4 g5 HF
        clear bf HS6
        go_wp2
        exact bodyPost_ret (v := .tuple #[.agg #[.string kn, .int .i64 kk, .string kd, .int .i64 kl, .int .i64 km, .string kt], .bool true]) (by simp [results, Tryz.results38, go_sem, g0, g1, g2, g3, g4, g5]) rfl ⟨ret_val (by rw [HR.out]; rfl), HF.out⟩
      · have HN2 : Hid (findK (xs.drop (t + 1)) nm = r) := Lib.hid (by
          have h1 := HE.out
          rw [if_neg (by rw [decide_eq_true_eq]; exact hl)] at h1
          exact h1.symm)
        have d3 : (kn.toList == nm.toList) = false := beq_eq_false_iff_ne.2 (fun h => hl (toList_inj h))
        clear HE hl
        go_wp2
        go_roundw
        case rel => exact ⟨t + 1, by go_num, by omega, Lib.hid ⟨HK.out.1, HK.out.2.1, HN2.out⟩⟩
        case measure => simp [intOf]; omega
    · have HR : Hid (r = none) := Lib.hid (by
        have h1 := HK.out.2.2
        rw [List.drop_eq_nil_of_le (by rw [HN.out]; omega)] at h1
        exact h1.symm)
      have q2 : ¬ (t : Int) < n := by omega
      have HS6 : Hid (Box6 (set6 wr w.heap.size kZero) w.heap.size kZero ∧ Below w.heap.size w (set6 wr w.heap.size kZero)) := Lib.hid ⟨HK.out.2.1.set6 _, below_set6 HK.out.1 (Nat.le_refl _) _⟩
      obtain ⟨b0, b1, b2, b3, b4, b5, bf⟩ := HK.out.2.1
      have f0 := bf 0 (by decide)
      have f1 := bf 1 (by decide)
      have f2 := bf 2 (by decide)
      have f3 := bf 3 (by decide)
      have f4 := bf 4 (by decide)
      have f5 := bf 5 (by decide)
      obtain ⟨g0, g1, g2, g3, g4, g5, _⟩ := HS6.out.1
      have HF := Lib.hid HS6.out.2
      unfold kZero at b0 b1 b2 b3 b4 b5
      unfold set6 kZero at g0 g1 g2 g3 g4 g5 HF
      simp only at b0 b1 b2 b3 b4 b5 g0 g1 g2 g3 g4 g5 HF
      clear bf HS6 hn'
      go_wp2
      exact bodyPost_ret (v := .tuple #[.agg #[.string ⟨#[]⟩, .int .i64 0, .string ⟨#[]⟩, .int .i64 0, .int .i64 0, .string ⟨#[]⟩], .bool false]) (by simp [results, Tryz.results38, go_sem, g0, g1, g2, g3, g4, g5]) rfl ⟨ret_val (by rw [HR.out]; rfl), HF.out⟩
theorem letter_none (xs : List KeyV) : letterK xs ⟨#[]⟩ = none := by
  unfold letterK
  rw [List.find?_eq_none]
  intro k _
  unfold letterB
  by_cases hk : k.letter = ⟨#[]⟩
  · rw [decide_eq_true hk]; simp
  · rw [decide_eq_false hk]; simp
set_option maxHeartbeats 1600000 in
set_option maxRecDepth 100000 in
theorem refLetter_any (xs : List KeyV) (nm : ByteArray) (S : Nat) (x : Option Addr) (c : Nat) (w : World) (h : SetAt w S x c xs) (hn : xs.length ≤ 1000000) :
    Calls Tryz.prog 65 #[.pointer (some ⟨S, 0, none⟩), .string nm] w fun e w' => e = .returned (oAgg (letterK xs nm)) ∧ Below w.heap.size w w' := by
  have HS := Lib.hid h
  have HZ : Hid (∀ t, Box6 (w.alloc (Obj.cells #[.string ⟨#[]⟩, .int .i64 0, .string ⟨#[]⟩, .int .i64 0, .int .i64 0, .string ⟨#[]⟩] t)) w.heap.size kZero ∧ Below w.heap.size w (w.alloc (Obj.cells #[.string ⟨#[]⟩, .int .i64 0, .string ⟨#[]⟩, .int .i64 0, .int .i64 0, .string ⟨#[]⟩] t))) := Lib.hid fun t => ⟨box6_new w kZero t, below_one w _⟩
  have HD : Hid (letterK (xs.drop 0) nm = letterK xs nm) := Lib.hid rfl
  obtain ⟨r, hr⟩ : ∃ r, letterK xs nm = r := ⟨_, rfl⟩
  have HRR := Lib.hid hr
  rw [hr] at HD ⊢
  obtain ⟨n, hn'⟩ : ∃ n, xs.length = n := ⟨_, rfl⟩
  have HN := Lib.hid hn'
  rw [hn'] at hn
  clear h hr
  go_enter Tryz.func65, Tryz.ntmps65
  go_wp2
  go_loopw [6] (fun i wr => ∃ t : Nat, i = .int .i64 t ∧ t ≤ n ∧ Hid (Below w.heap.size w wr ∧ Box6 wr w.heap.size kZero ∧ letterK (xs.drop t) nm = r)) (fun i _ => n - (intOf i).toNat)
  case atStart => exact ⟨0, rfl, by omega, Lib.hid ⟨(HZ.out _).2, (HZ.out _).1, HD.out⟩⟩
  case round =>
    clear HD HZ
    obtain ⟨t, rfl, ht, HK⟩ := hrel
    have hcell := (HS.out.below HK.out.1).cell
    rw [hn'] at hcell
    by_cases hem : nm = ⟨#[]⟩
    · have HR : Hid (r = none) := Lib.hid (by rw [← HRR.out, hem]; exact letter_none xs)
      subst hem
      by_cases hlt : t < n
      · have q1 : (t : Int) < n := by omega
        have HS6 : Hid (Box6 (set6 wr w.heap.size kZero) w.heap.size kZero ∧ Below w.heap.size w (set6 wr w.heap.size kZero)) := Lib.hid ⟨HK.out.2.1.set6 _, below_set6 HK.out.1 (Nat.le_refl _) _⟩
        obtain ⟨b0, b1, b2, b3, b4, b5, bf⟩ := HK.out.2.1
        have f0 := bf 0 (by decide)
        have f1 := bf 1 (by decide)
        have f2 := bf 2 (by decide)
        have f3 := bf 3 (by decide)
        have f4 := bf 4 (by decide)
        have f5 := bf 5 (by decide)
        obtain ⟨g0, g1, g2, g3, g4, g5, _⟩ := HS6.out.1
        have HF := Lib.hid HS6.out.2
        unfold kZero at b0 b1 b2 b3 b4 b5
        unfold set6 kZero at g0 g1 g2 g3 g4 g5 HF
        simp only at b0 b1 b2 b3 b4 b5 g0 g1 g2 g3 g4 g5 HF
        clear bf HS6 hn'
        go_wp2
        exact bodyPost_ret (v := .tuple #[.agg #[.string ⟨#[]⟩, .int .i64 0, .string ⟨#[]⟩, .int .i64 0, .int .i64 0, .string ⟨#[]⟩], .bool false]) (by simp [results, Tryz.results65, go_sem, g0, g1, g2, g3, g4, g5]) rfl ⟨ret_val (by rw [HR.out]; rfl), HF.out⟩
      · have q2 : ¬ (t : Int) < n := by omega
        have HS6 : Hid (Box6 (set6 wr w.heap.size kZero) w.heap.size kZero ∧ Below w.heap.size w (set6 wr w.heap.size kZero)) := Lib.hid ⟨HK.out.2.1.set6 _, below_set6 HK.out.1 (Nat.le_refl _) _⟩
        obtain ⟨b0, b1, b2, b3, b4, b5, bf⟩ := HK.out.2.1
        have f0 := bf 0 (by decide)
        have f1 := bf 1 (by decide)
        have f2 := bf 2 (by decide)
        have f3 := bf 3 (by decide)
        have f4 := bf 4 (by decide)
        have f5 := bf 5 (by decide)
        obtain ⟨g0, g1, g2, g3, g4, g5, _⟩ := HS6.out.1
        have HF := Lib.hid HS6.out.2
        unfold kZero at b0 b1 b2 b3 b4 b5
        unfold set6 kZero at g0 g1 g2 g3 g4 g5 HF
        simp only at b0 b1 b2 b3 b4 b5 g0 g1 g2 g3 g4 g5 HF
        clear bf HS6 hn'
        go_wp2
        exact bodyPost_ret (v := .tuple #[.agg #[.string ⟨#[]⟩, .int .i64 0, .string ⟨#[]⟩, .int .i64 0, .int .i64 0, .string ⟨#[]⟩], .bool false]) (by simp [results, Tryz.results65, go_sem, g0, g1, g2, g3, g4, g5]) rfl ⟨ret_val (by rw [HR.out]; rfl), HF.out⟩
    have d0 : nm.toList.isEmpty = false := emp_false' (fun h => hem (by rw [← mkB_self nm, h]; rfl))
    have HEM := Lib.hid hem
    clear hem
    by_cases hlt : t < n
    · have htx : t < xs.length := by rw [HN.out]; exact hlt
      obtain ⟨b, hxe, hbl, c0, c1, c2, c3, c4, c5⟩ := (HS.out.keys.below HK.out.1) t htx
      have hd := letter_drop (l := nm) htx
      generalize xs[t] = k at c0 c1 c2 c3 c4 c5 hd
      obtain ⟨kn, kk, kd, kl, km, kt⟩ := k
      simp only at c0 c1 c2 c3 c4 c5
      have HE := Lib.hid (HK.out.2.2.symm.trans hd)
      have q1 : (0 : Int) ≤ t := by omega
      have q2 : (t : Int) < n := by omega
      subst hxe
      clear hd htx hn'
      by_cases hl : kt = nm
      · have HR : Hid (r = some ⟨kn, kk, kd, kl, km, kt⟩) := Lib.hid (by
          have h1 := HE.out
          rw [show letterB nm ⟨kn, kk, kd, kl, km, kt⟩ = true by unfold letterB; rw [decide_eq_false (by show ¬ kt = _; rw [hl]; exact HEM.out), decide_eq_true hl]; rfl] at h1
          exact h1)
        subst hl
        clear HE
        have HS6 : Hid (Box6 (set6 wr w.heap.size ⟨kn, kk, kd, kl, km, kt⟩) w.heap.size ⟨kn, kk, kd, kl, km, kt⟩ ∧ Below w.heap.size w (set6 wr w.heap.size ⟨kn, kk, kd, kl, km, kt⟩)) := Lib.hid ⟨HK.out.2.1.set6 _, below_set6 HK.out.1 (Nat.le_refl _) _⟩
        obtain ⟨b0, b1, b2, b3, b4, b5, bf⟩ := HK.out.2.1
        have f0 := bf 0 (by decide)
        have f1 := bf 1 (by decide)
        have f2 := bf 2 (by decide)
        have f3 := bf 3 (by decide)
        have f4 := bf 4 (by decide)
        have f5 := bf 5 (by decide)
        obtain ⟨g0, g1, g2, g3, g4, g5, _⟩ := HS6.out.1
        have HF := Lib.hid HS6.out.2
        unfold kZero at b0 b1 b2 b3 b4 b5
        unfold set6 at g0 g1 g2 g3 g4 g5 HF
        simp only at b0 b1 b2 b3 b4 b5 g0 g1 g2 g3 g4 g5 HF
        clear bf HS6
        go_wp2
        exact bodyPost_ret (v := .tuple #[.agg #[.string kn, .int .i64 kk, .string kd, .int .i64 kl, .int .i64 km, .string kt], .bool true]) (by simp [results, Tryz.results65, go_sem, g0, g1, g2, g3, g4, g5]) rfl ⟨ret_val (by rw [HR.out]; rfl), HF.out⟩
      · have HN2 : Hid (letterK (xs.drop (t + 1)) nm = r) := Lib.hid (by
          have h1 := HE.out
          rw [show letterB nm ⟨kn, kk, kd, kl, km, kt⟩ = false by unfold letterB; rw [decide_eq_false hl, Bool.and_false]] at h1
          exact h1.symm)
        have d3 : (kt.toList == nm.toList) = false := beq_eq_false_iff_ne.2 (fun h => hl (toList_inj h))
        clear HE hl
        go_wp2
        go_roundw
        case rel => exact ⟨t + 1, by go_num, by omega, Lib.hid ⟨HK.out.1, HK.out.2.1, HN2.out⟩⟩
        case measure => simp [intOf]; omega
    · have HR : Hid (r = none) := Lib.hid (by
        have h1 := HK.out.2.2
        rw [List.drop_eq_nil_of_le (by rw [HN.out]; omega)] at h1
        exact h1.symm)
      have q2 : ¬ (t : Int) < n := by omega
      have HS6 : Hid (Box6 (set6 wr w.heap.size kZero) w.heap.size kZero ∧ Below w.heap.size w (set6 wr w.heap.size kZero)) := Lib.hid ⟨HK.out.2.1.set6 _, below_set6 HK.out.1 (Nat.le_refl _) _⟩
      obtain ⟨b0, b1, b2, b3, b4, b5, bf⟩ := HK.out.2.1
      have f0 := bf 0 (by decide)
      have f1 := bf 1 (by decide)
      have f2 := bf 2 (by decide)
      have f3 := bf 3 (by decide)
      have f4 := bf 4 (by decide)
      have f5 := bf 5 (by decide)
      obtain ⟨g0, g1, g2, g3, g4, g5, _⟩ := HS6.out.1
      have HF := Lib.hid HS6.out.2
      unfold kZero at b0 b1 b2 b3 b4 b5
      unfold set6 kZero at g0 g1 g2 g3 g4 g5 HF
      simp only at b0 b1 b2 b3 b4 b5 g0 g1 g2 g3 g4 g5 HF
      clear bf HS6 hn'
      go_wp2
      exact bodyPost_ret (v := .tuple #[.agg #[.string ⟨#[]⟩, .int .i64 0, .string ⟨#[]⟩, .int .i64 0, .int .i64 0, .string ⟨#[]⟩], .bool false]) (by simp [results, Tryz.results65, go_sem, g0, g1, g2, g3, g4, g5]) rfl ⟨ret_val (by rw [HR.out]; rfl), HF.out⟩
theorem Keys.name {w : World} {g : Nat} {xs : List KeyV} (h : Keys w (some ⟨g, 0, none⟩) xs) (i : Nat) (hi : i < xs.length) : w.cell? ⟨g, i * 6, none⟩ = some (.string xs[i].name) := by
  obtain ⟨a, ea, _, a0, _⟩ := h i hi
  have ea : g = a := by simpa using ea
  rw [ea]; exact a0
theorem less_cmp : ∀ a b : List UInt8, Op.bytesLess a b = decide (Lib.compareBytes a b < 0)
  | [], [] => rfl
  | [], _ :: _ => rfl
  | _ :: _, [] => rfl
  | x :: a, y :: b => by
    unfold Op.bytesLess Lib.compareBytes
    by_cases h1 : x < y
    · simp [h1]
    · by_cases h2 : y < x
      · have h3 : ¬ x = y := fun e => by subst e; exact h1 h2
        simp [h1, h2, h3]
      · have h3 : x = y := UInt8.le_antisymm (UInt8.not_lt.1 h2) (UInt8.not_lt.1 h1)
        subst h3
        simp [h1, less_cmp a b]
theorem less_no {xs : List KeyV} (hs : Sorted xs) {t : Nat} (ht : t + 1 < xs.length) : Op.bytesLess (xs[t + 1]).name.toList (xs[t]'(Nat.lt_of_succ_lt ht)).name.toList = false := by
  have h := hs t (t + 1) ht (Nat.lt_succ_self _)
  rw [cmpB_anti] at h
  rw [toList_eq, toList_eq, less_cmp]
  exact decide_eq_false (by show ¬ cmpB _ _ < 0; omega)
end Go.Proofs.YtbgoooljkdjjhaaGreatDoor
