/-
  KeyRefs, SetAll2.
-/
import Derived.Test.YtopghlnoklajkaaGreatDoorQKeyFinds
import Derived.Laws.StructEq
import Derived.Test.YtopghlnoklajkaaGreatDoorQSetAll
import Derived.Test.YtopghlnoklajkaaGreatDoorQRefsLaid
namespace Go.Proofs.YtopghlnoklajkaaGreatDoor
open Go.ChangeShapes Go.WideShapes Go.ChangeAt Go.RowKit

set_option maxHeartbeats 1600000 in
set_option maxRecDepth 100000 in
theorem refFind_any (xs : List KeyV) (nm : ByteArray) (S : Nat) (x : Option Addr) (c : Nat) (w : World) (h : SetAt w S x c xs) (hn : xs.length ≤ 1000000) :
  Calls Tryz.prog 69 #[.pointer (some ⟨S, 0, none⟩), .string nm] w fun e w' => e = .returned (oAgg (findK xs nm)) ∧ Below w.heap.size w w' := by
 have HS := Lib.hid h
 have HZ : Hid (∀ t, Box6 (w.alloc (Obj.cells #[.string ⟨#[]⟩, .int .i64 0, .string ⟨#[]⟩, .int .i64 0, .int .i64 0, .string ⟨#[]⟩] t)) w.heap.size kZero ∧ Below w.heap.size w (w.alloc (Obj.cells #[.string ⟨#[]⟩, .int .i64 0, .string ⟨#[]⟩, .int .i64 0, .int .i64 0, .string ⟨#[]⟩] t))) := Lib.hid fun t => ⟨box6_new w kZero t, below_one w _⟩
 have HD : Hid (findK (xs.drop 0) nm = findK xs nm) := Lib.hid rfl
 obtain ⟨r, hr⟩ : ∃ r, findK xs nm = r := ⟨_, rfl⟩
 rw [hr] at HD ⊢
 obtain ⟨n, hn'⟩ : ∃ n, xs.length = n := ⟨_, rfl⟩
 have HN := Lib.hid hn'
 rw [hn'] at hn
 clear h hr
 go_enter Tryz.func69, Tryz.ntmps69
 go_wp2
 go_loopw [6] (fun i wr => ∃ t : Nat, i = .int .i64 t ∧ t ≤ n ∧ Hid (Below w.heap.size w wr ∧ Box6 wr w.heap.size kZero ∧ findK (xs.drop t) nm = r)) (fun i _ => n - (intOf i).toNat)
 case atStart => exact ⟨0, rfl, by omega, Lib.hid ⟨(HZ.out _).2, (HZ.out _).1, HD.out⟩⟩
 case round =>
  clear HD HZ
  obtain ⟨t, rfl, ht, HK⟩ := hrel
  have hcell := (HS.out.below HK.out.1).cell
  rw [hn'] at hcell
  by_cases hlt : t < n
  ·have htx : t < xs.length := by rw [HN.out]; exact hlt
   obtain ⟨b, hxe, hbl, c0, c1, c2, c3, c4, c5⟩ := (HS.out.keys.below HK.out.1) t htx
   have hd := find_drop (nm := nm) htx
   generalize xs[t] = k at c0 c1 c2 c3 c4 c5 hd
   obtain ⟨kn, kk, kd, kl, km, kt⟩ := k
   simp only at c0 c1 c2 c3 c4 c5
   have HE := Lib.hid (HK.out.2.2.symm.trans hd)
   have q1 : (0 : Int) ≤ t := by omega
   have q2 : (t : Int) < n := by omega
   subst hxe
   clear hd htx hn'
   by_cases hl : kn = nm
   ·have HR : Hid (r = some ⟨kn, kk, kd, kl, km, kt⟩) := Lib.hid (by
     have h1 := HE.out
     rw [if_pos (decide_eq_true hl)] at h1
     exact h1)
    subst hl
    clear HE
    have HS6 : Hid (Box6 (set6 wr w.heap.size ⟨kn, kk, kd, kl, km, kt⟩) w.heap.size ⟨kn, kk, kd, kl, km, kt⟩ ∧ Below w.heap.size w (set6 wr w.heap.size ⟨kn, kk, kd, kl, km, kt⟩)) := Lib.hid ⟨HK.out.2.1.set6 _, below_set6 HK.out.1 (Nat.le_refl _) _⟩
    obtain ⟨b0, b1, b2, b3, b4, b5, bf⟩ := HK.out.2.1
    have f0 := bf 0 (by decide)
    have f1 := bf 1 (by decide)
    have f2 := bf 2 (by decide)
    have f3 := bf 3 (by decide)
    have f4 := bf 4 (by decide)
    have f5 := bf 5 (by decide)
    obtain ⟨g0, g1, g2, g3, g4, g5, _⟩ := HS6.out.1
    have HF := Lib.hid HS6.out.2
    unfold kZero at b0 b1 b2 b3 b4 b5
    unfold set6 at g0 g1 g2 g3 g4 g5 HF
    simp only at b0 b1 b2 b3 b4 b5 g0 g1 g2 g3 g4 g5 HF
    clear bf HS6
    go_wp2
    exact bodyPost_ret (v := .tuple #[.agg #[.string kn, .int .i64 kk, .string kd, .int .i64 kl, .int .i64 km, .string kt], .bool true]) (by simp [results, Tryz.results69, go_sem, g0, g1, g2, g3, g4, g5]) rfl ⟨ret_val (by rw [HR.out]; rfl), HF.out⟩
   ·have HN2 : Hid (findK (xs.drop (t + 1)) nm = r) := Lib.hid (by
     have h1 := HE.out
     rw [if_neg (by rw [decide_eq_true_eq]; exact hl)] at h1
     exact h1.symm)
    have d3 : (kn.toList == nm.toList) = false := beq_eq_false_iff_ne.2 (fun h => hl (toList_inj h))
    clear HE hl
    go_wp2
    go_roundw
    case rel => exact ⟨t + 1, by go_num, by omega, Lib.hid ⟨HK.out.1, HK.out.2.1, HN2.out⟩⟩
    case measure => simp [intOf]; omega
  ·have HR : Hid (r = none) := Lib.hid (by
    have h1 := HK.out.2.2
    rw [List.drop_eq_nil_of_le (by rw [HN.out]; omega)] at h1
    exact h1.symm)
   have q2 : ¬ (t : Int) < n := by omega
   have HS6 : Hid (Box6 (set6 wr w.heap.size kZero) w.heap.size kZero ∧ Below w.heap.size w (set6 wr w.heap.size kZero)) := Lib.hid ⟨HK.out.2.1.set6 _, below_set6 HK.out.1 (Nat.le_refl _) _⟩
   obtain ⟨b0, b1, b2, b3, b4, b5, bf⟩ := HK.out.2.1
   have f0 := bf 0 (by decide)
   have f1 := bf 1 (by decide)
   have f2 := bf 2 (by decide)
   have f3 := bf 3 (by decide)
   have f4 := bf 4 (by decide)
   have f5 := bf 5 (by decide)
   obtain ⟨g0, g1, g2, g3, g4, g5, _⟩ := HS6.out.1
   have HF := Lib.hid HS6.out.2
   unfold kZero at b0 b1 b2 b3 b4 b5
   unfold set6 kZero at g0 g1 g2 g3 g4 g5 HF
   simp only at b0 b1 b2 b3 b4 b5 g0 g1 g2 g3 g4 g5 HF
   clear bf HS6 hn'
   go_wp2
   exact bodyPost_ret (v := .tuple #[.agg #[.string ⟨#[]⟩, .int .i64 0, .string ⟨#[]⟩, .int .i64 0, .int .i64 0, .string ⟨#[]⟩], .bool false]) (by simp [results, Tryz.results69, go_sem, g0, g1, g2, g3, g4, g5]) rfl ⟨ret_val (by rw [HR.out]; rfl), HF.out⟩
theorem letter_none (xs : List KeyV) : letterK xs ⟨#[]⟩ = none := by
 unfold letterK
 rw [List.find?_eq_none]
 intro k _
 unfold letterB
 by_cases hk : k.letter = ⟨#[]⟩
 ·rw [decide_eq_true hk]; simp
 ·rw [decide_eq_false hk]; simp
set_option maxHeartbeats 1600000 in
set_option maxRecDepth 100000 in
theorem refLetter_any (xs : List KeyV) (nm : ByteArray) (S : Nat) (x : Option Addr) (c : Nat) (w : World) (h : SetAt w S x c xs) (hn : xs.length ≤ 1000000) :
  Calls Tryz.prog 70 #[.pointer (some ⟨S, 0, none⟩), .string nm] w fun e w' => e = .returned (oAgg (letterK xs nm)) ∧ Below w.heap.size w w' := by
 have HS := Lib.hid h
 have HZ : Hid (∀ t, Box6 (w.alloc (Obj.cells #[.string ⟨#[]⟩, .int .i64 0, .string ⟨#[]⟩, .int .i64 0, .int .i64 0, .string ⟨#[]⟩] t)) w.heap.size kZero ∧ Below w.heap.size w (w.alloc (Obj.cells #[.string ⟨#[]⟩, .int .i64 0, .string ⟨#[]⟩, .int .i64 0, .int .i64 0, .string ⟨#[]⟩] t))) := Lib.hid fun t => ⟨box6_new w kZero t, below_one w _⟩
 have HD : Hid (letterK (xs.drop 0) nm = letterK xs nm) := Lib.hid rfl
 obtain ⟨r, hr⟩ : ∃ r, letterK xs nm = r := ⟨_, rfl⟩
 have HRR := Lib.hid hr
 rw [hr] at HD ⊢
 obtain ⟨n, hn'⟩ : ∃ n, xs.length = n := ⟨_, rfl⟩
 have HN := Lib.hid hn'
 rw [hn'] at hn
 clear h hr
 go_enter Tryz.func70, Tryz.ntmps70
 go_wp2
 go_loopw [6] (fun i wr => ∃ t : Nat, i = .int .i64 t ∧ t ≤ n ∧ Hid (Below w.heap.size w wr ∧ Box6 wr w.heap.size kZero ∧ letterK (xs.drop t) nm = r)) (fun i _ => n - (intOf i).toNat)
 case atStart => exact ⟨0, rfl, by omega, Lib.hid ⟨(HZ.out _).2, (HZ.out _).1, HD.out⟩⟩
 case round =>
  clear HD HZ
  obtain ⟨t, rfl, ht, HK⟩ := hrel
  have hcell := (HS.out.below HK.out.1).cell
  rw [hn'] at hcell
  by_cases hem : nm = ⟨#[]⟩
  ·have HR : Hid (r = none) := Lib.hid (by rw [← HRR.out, hem]; exact letter_none xs)
   subst hem
   by_cases hlt : t < n
   ·have q1 : (t : Int) < n := by omega
    have HS6 : Hid (Box6 (set6 wr w.heap.size kZero) w.heap.size kZero ∧ Below w.heap.size w (set6 wr w.heap.size kZero)) := Lib.hid ⟨HK.out.2.1.set6 _, below_set6 HK.out.1 (Nat.le_refl _) _⟩
    obtain ⟨b0, b1, b2, b3, b4, b5, bf⟩ := HK.out.2.1
    have f0 := bf 0 (by decide)
    have f1 := bf 1 (by decide)
    have f2 := bf 2 (by decide)
    have f3 := bf 3 (by decide)
    have f4 := bf 4 (by decide)
    have f5 := bf 5 (by decide)
    obtain ⟨g0, g1, g2, g3, g4, g5, _⟩ := HS6.out.1
    have HF := Lib.hid HS6.out.2
    unfold kZero at b0 b1 b2 b3 b4 b5
    unfold set6 kZero at g0 g1 g2 g3 g4 g5 HF
    simp only at b0 b1 b2 b3 b4 b5 g0 g1 g2 g3 g4 g5 HF
    clear bf HS6 hn'
    go_wp2
    exact bodyPost_ret (v := .tuple #[.agg #[.string ⟨#[]⟩, .int .i64 0, .string ⟨#[]⟩, .int .i64 0, .int .i64 0, .string ⟨#[]⟩], .bool false]) (by simp [results, Tryz.results70, go_sem, g0, g1, g2, g3, g4, g5]) rfl ⟨ret_val (by rw [HR.out]; rfl), HF.out⟩
   ·have q2 : ¬ (t : Int) < n := by omega
    have HS6 : Hid (Box6 (set6 wr w.heap.size kZero) w.heap.size kZero ∧ Below w.heap.size w (set6 wr w.heap.size kZero)) := Lib.hid ⟨HK.out.2.1.set6 _, below_set6 HK.out.1 (Nat.le_refl _) _⟩
    obtain ⟨b0, b1, b2, b3, b4, b5, bf⟩ := HK.out.2.1
    have f0 := bf 0 (by decide)
    have f1 := bf 1 (by decide)
    have f2 := bf 2 (by decide)
    have f3 := bf 3 (by decide)
    have f4 := bf 4 (by decide)
    have f5 := bf 5 (by decide)
    obtain ⟨g0, g1, g2, g3, g4, g5, _⟩ := HS6.out.1
    have HF := Lib.hid HS6.out.2
    unfold kZero at b0 b1 b2 b3 b4 b5
    unfold set6 kZero at g0 g1 g2 g3 g4 g5 HF
    simp only at b0 b1 b2 b3 b4 b5 g0 g1 g2 g3 g4 g5 HF
    clear bf HS6 hn'
    go_wp2
    exact bodyPost_ret (v := .tuple #[.agg #[.string ⟨#[]⟩, .int .i64 0, .string ⟨#[]⟩, .int .i64 0, .int .i64 0, .string ⟨#[]⟩], .bool false]) (by simp [results, Tryz.results70, go_sem, g0, g1, g2, g3, g4, g5]) rfl ⟨ret_val (by rw [HR.out]; rfl), HF.out⟩
  have d0 : nm.toList.isEmpty = false := emp_false' (fun h => hem (by rw [← mkB_self nm, h]; rfl))
  have HEM := Lib.hid hem
  clear hem
  by_cases hlt : t < n
  ·have htx : t < xs.length := by rw [HN.out]; exact hlt
   obtain ⟨b, hxe, hbl, c0, c1, c2, c3, c4, c5⟩ := (HS.out.keys.below HK.out.1) t htx
   have hd := letter_drop (l := nm) htx
   generalize xs[t] = k at c0 c1 c2 c3 c4 c5 hd
   obtain ⟨kn, kk, kd, kl, km, kt⟩ := k
   simp only at c0 c1 c2 c3 c4 c5
   have HE := Lib.hid (HK.out.2.2.symm.trans hd)
   have q1 : (0 : Int) ≤ t := by omega
   have q2 : (t : Int) < n := by omega
   subst hxe
   clear hd htx hn'
   by_cases hl : kt = nm
   ·have HR : Hid (r = some ⟨kn, kk, kd, kl, km, kt⟩) := Lib.hid (by
     have h1 := HE.out
     rw [show letterB nm ⟨kn, kk, kd, kl, km, kt⟩ = true by unfold letterB; rw [decide_eq_false (by show ¬ kt = _; rw [hl]; exact HEM.out), decide_eq_true hl]; rfl] at h1
     exact h1)
    subst hl
    clear HE
    have HS6 : Hid (Box6 (set6 wr w.heap.size ⟨kn, kk, kd, kl, km, kt⟩) w.heap.size ⟨kn, kk, kd, kl, km, kt⟩ ∧ Below w.heap.size w (set6 wr w.heap.size ⟨kn, kk, kd, kl, km, kt⟩)) := Lib.hid ⟨HK.out.2.1.set6 _, below_set6 HK.out.1 (Nat.le_refl _) _⟩
    obtain ⟨b0, b1, b2, b3, b4, b5, bf⟩ := HK.out.2.1
    have f0 := bf 0 (by decide)
    have f1 := bf 1 (by decide)
    have f2 := bf 2 (by decide)
    have f3 := bf 3 (by decide)
    have f4 := bf 4 (by decide)
    have f5 := bf 5 (by decide)
    obtain ⟨g0, g1, g2, g3, g4, g5, _⟩ := HS6.out.1
    have HF := Lib.hid HS6.out.2
    unfold kZero at b0 b1 b2 b3 b4 b5
    unfold set6 at g0 g1 g2 g3 g4 g5 HF
    simp only at b0 b1 b2 b3 b4 b5 g0 g1 g2 g3 g4 g5 HF
    clear bf HS6
    go_wp2
    exact bodyPost_ret (v := .tuple #[.agg #[.string kn, .int .i64 kk, .string kd, .int .i64 kl, .int .i64 km, .string kt], .bool true]) (by simp [results, Tryz.results70, go_sem, g0, g1, g2, g3, g4, g5]) rfl ⟨ret_val (by rw [HR.out]; rfl), HF.out⟩
   ·have HN2 : Hid (letterK (xs.drop (t + 1)) nm = r) := Lib.hid (by
     have h1 := HE.out
     rw [show letterB nm ⟨kn, kk, kd, kl, km, kt⟩ = false by unfold letterB; rw [decide_eq_false hl, Bool.and_false]] at h1
     exact h1.symm)
    have d3 : (kt.toList == nm.toList) = false := beq_eq_false_iff_ne.2 (fun h => hl (toList_inj h))
    clear HE hl
    go_wp2
    go_roundw
    case rel => exact ⟨t + 1, by go_num, by omega, Lib.hid ⟨HK.out.1, HK.out.2.1, HN2.out⟩⟩
    case measure => simp [intOf]; omega
  ·have HR : Hid (r = none) := Lib.hid (by
    have h1 := HK.out.2.2
    rw [List.drop_eq_nil_of_le (by rw [HN.out]; omega)] at h1
    exact h1.symm)
   have q2 : ¬ (t : Int) < n := by omega
   have HS6 : Hid (Box6 (set6 wr w.heap.size kZero) w.heap.size kZero ∧ Below w.heap.size w (set6 wr w.heap.size kZero)) := Lib.hid ⟨HK.out.2.1.set6 _, below_set6 HK.out.1 (Nat.le_refl _) _⟩
   obtain ⟨b0, b1, b2, b3, b4, b5, bf⟩ := HK.out.2.1
   have f0 := bf 0 (by decide)
   have f1 := bf 1 (by decide)
   have f2 := bf 2 (by decide)
   have f3 := bf 3 (by decide)
   have f4 := bf 4 (by decide)
   have f5 := bf 5 (by decide)
   obtain ⟨g0, g1, g2, g3, g4, g5, _⟩ := HS6.out.1
   have HF := Lib.hid HS6.out.2
   unfold kZero at b0 b1 b2 b3 b4 b5
   unfold set6 kZero at g0 g1 g2 g3 g4 g5 HF
   simp only at b0 b1 b2 b3 b4 b5 g0 g1 g2 g3 g4 g5 HF
   clear bf HS6 hn'
   go_wp2
   exact bodyPost_ret (v := .tuple #[.agg #[.string ⟨#[]⟩, .int .i64 0, .string ⟨#[]⟩, .int .i64 0, .int .i64 0, .string ⟨#[]⟩], .bool false]) (by simp [results, Tryz.results70, go_sem, g0, g1, g2, g3, g4, g5]) rfl ⟨ret_val (by rw [HR.out]; rfl), HF.out⟩
theorem Keys.name {w : World} {g : Nat} {xs : List KeyV} (h : Keys w (some ⟨g, 0, none⟩) xs) (i : Nat) (hi : i < xs.length) : w.cell? ⟨g, i * 6, none⟩ = some (.string xs[i].name) := by
 obtain ⟨a, ea, _, a0, _⟩ := h i hi
 have ea : g = a := by simpa using ea
 rw [ea]; exact a0
theorem less_cmp : ∀ a b : List UInt8, Op.bytesLess a b = decide (Lib.compareBytes a b < 0)
 | [], [] => rfl
 | [], _ :: _ => rfl
 | _ :: _, [] => rfl
 | x :: a, y :: b => by
  unfold Op.bytesLess Lib.compareBytes
  by_cases h1 : x < y
  ·simp [h1]
  ·by_cases h2 : y < x
   ·have h3 : ¬ x = y := fun e => by subst e; exact h1 h2
    simp [h1, h2, h3]
   ·have h3 : x = y := UInt8.le_antisymm (UInt8.not_lt.1 h2) (UInt8.not_lt.1 h1)
    subst h3
    simp [h1, less_cmp a b]
end Go.Proofs.YtopghlnoklajkaaGreatDoor

namespace Go.Proofs.YtopghlnoklajkaaGreatDoor
open Go.ChangeShapes Go.WideShapes Go.ChangeAt Go.RowKit

set_option maxHeartbeats 3200000 in
set_option maxRecDepth 100000 in
theorem sall2_any (B X : Nat) (w : World) (kv lv : Value) (ms : List SetM) (hX : SObj w X kv lv) (h : SetsAt B w lv ms) (hn : ms.length ≤ 1000) (hz : ∀ m ∈ ms, m.x.val.words.length ≤ 4294967280) :
  Calls Tryz.prog 15 #[.pointer (some ⟨X, 0, none⟩)] w fun e w' => ∃ v ms', e = .returned v ∧ ms'.map (·.x) = ms.map (·.x) ∧ SetsAt w.heap.size w' v ms' ∧ Below w.heap.size w w' ∧ NewW w.heap.size ms' := by
 obtain ⟨x0, c0', hlv⟩ := h.form
 obtain ⟨n, hn'⟩ : ∃ n, ms.length = n := ⟨_, rfl⟩
 have HN := Lib.hid hn'
 have H := Lib.hid h
 have HZ := Lib.hid hz
 have HX := Lib.hid hX
 rw [hn'] at hlv hn
 subst hlv
 have H0 : Hid (SetsAt w.heap.size w (.slice none 0 0) [] ∧ Below w.heap.size w w ∧ NewW w.heap.size []) := Lib.hid ⟨SetsAt.nil_ _ _, Below.refl _ _, fun m hm => (by cases hm)⟩
 clear hX h hn' hz
 go_enter Tryz.func15, Tryz.ntmps15
 go_wp2
 go_loopw [3, 4] (fun vv i wr => ∃ (v : Value) (k : Nat) (ls : List SetM), v = vv ∧ i = .int .i64 k ∧ k ≤ n ∧ ls.length = k ∧ ls.map (·.x) = (ms.take k).map (·.x) ∧ Hid (SetsAt w.heap.size wr v ls ∧ Below w.heap.size w wr ∧ NewW w.heap.size ls)) (fun _ i _ => n - (intOf i).toNat)
 case atStart => exact ⟨_, 0, [], rfl, rfl, by omega, rfl, rfl, H0⟩
 case round =>
  clear H0
  obtain ⟨v, k, ls, rfl, rfl, hk, hll, hlx, HR⟩ := hrel
  have HLX := Lib.hid hlx
  have HLL := Lib.hid hll
  clear hlx hll
  obtain ⟨x0', x1'⟩ := (HX.out.below HR.out.2.1).cells
  by_cases hlt : k < n
  ·have q1 : (0 : Int) ≤ k := by omega
   have q2 : (k : Int) < n := by omega
   have hkm : k < ms.length := by rw [HN.out]; exact hlt
   obtain ⟨b, c, hbe, _, hcs⟩ := (H.out.below HR.out.2.1).cells hkm
   injection hbe with hbe hx1 hx2
   have e0 := hcs 0 (by decide)
   have e1 := hcs 1 (by decide)
   have e2 := hcs 2 (by decide)
   have e3 := hcs 3 (by decide)
   have e4 := hcs 4 (by decide)
   have e5 := hcs 5 (by decide)
   rw [Nat.add_zero] at e0
   have hwd := (H.out.below HR.out.2.1).wds _ (List.getElem_mem hkm)
   have hwz := HZ.out _ (List.getElem_mem hkm)
   have htk : (ms.take (k + 1)).map (·.x) = (ms.take k).map (·.x) ++ [ms[k].x] := by rw [List.take_succ_eq_append_getElem hkm, List.map_append]; rfl
   generalize ms[k] = m at *
   obtain ⟨⟨nm, ⟨kd, it, tx, ws⟩, fr⟩, a, mc⟩ := m
   have HTK := Lib.hid htk
   have HWD := Lib.hid hwd.1
   have HSB : Hid (∀ t, SBox (wr.alloc (Obj.cells #[.string nm, .int .i64 kd, .int .i64 it, .string tx, .slice a ws.length mc, .int .i64 fr] t)) wr.heap.size ⟨⟨nm, ⟨kd, it, tx, ws⟩, fr⟩, a, mc⟩) := Lib.hid fun t => sBox_new wr ⟨⟨nm, ⟨kd, it, tx, ws⟩, fr⟩, a, mc⟩ t
   have HOW : Hid (∀ t, Calls Tryz.prog 36 #[.agg #[.int .i64 kd, .int .i64 it, .string tx, .slice a ws.length mc]] (wr.alloc (Obj.cells #[.string nm, .int .i64 kd, .int .i64 it, .string tx, .slice a ws.length mc, .int .i64 fr] t)) fun e w' => ∃ y d, e = .returned (.agg #[.int .i64 kd, .int .i64 it, .string tx, .slice y ws.length d]) ∧ w'.ownsRow (wr.heap.size + 1) 9 1 (.slice y ws.length d) ws.length (ws.map Value.string) ∧ Below (wr.heap.size + 1) (wr.alloc (Obj.cells #[.string nm, .int .i64 kd, .int .i64 it, .string tx, .slice a ws.length mc, .int .i64 fr] t)) w') := Lib.hid fun t => by
    have := sown_any (wr.alloc (Obj.cells #[.string nm, .int .i64 kd, .int .i64 it, .string tx, .slice a ws.length mc, .int .i64 fr] t)) ⟨kd, it, tx, ws⟩ a mc (HWD.out.below (below_one wr _)) hwz
    rw [World.size_alloc] at this
    exact this
   simp only [sCells, List.getElem?_cons_zero, List.getElem?_cons_succ] at e0 e1 e2 e3 e4 e5
   obtain ⟨n2, hn2⟩ : ∃ n2, ws.length = n2 := ⟨_, rfl⟩
   have HN2 := Lib.hid hn2
   simp only [hn2] at e4 HOW HSB
   subst hbe
   clear hcs hwd hwz htk hkm hx1 hx2 hn2
   have HST : Hid (∀ t w6 y d u1 u2 u3 u4, w6.ownsRow (wr.heap.size + 1) 9 1 (.slice y n2 d) n2 (ws.map Value.string) → Below (wr.heap.size + 1) (wr.alloc (Obj.cells #[.string nm, .int .i64 kd, .int .i64 it, .string tx, .slice a n2 mc, .int .i64 fr] t)) w6 →
     SetsAt w.heap.size ((((w6.setCell ⟨wr.heap.size, 1, none⟩ u1).setCell ⟨wr.heap.size, 2, none⟩ u2).setCell ⟨wr.heap.size, 3, none⟩ u3).setCell ⟨wr.heap.size, 4, none⟩ u4) v ls ∧ Below w.heap.size w ((((w6.setCell ⟨wr.heap.size, 1, none⟩ u1).setCell ⟨wr.heap.size, 2, none⟩ u2).setCell ⟨wr.heap.size, 3, none⟩ u3).setCell ⟨wr.heap.size, 4, none⟩ u4) ∧
     ((((w6.setCell ⟨wr.heap.size, 1, none⟩ u1).setCell ⟨wr.heap.size, 2, none⟩ u2).setCell ⟨wr.heap.size, 3, none⟩ u3).setCell ⟨wr.heap.size, 4, none⟩ u4).ownsRow (wr.heap.size + 1) 9 1 (.slice y n2 d) n2 (ws.map Value.string) ∧ ((((w6.setCell ⟨wr.heap.size, 1, none⟩ u1).setCell ⟨wr.heap.size, 2, none⟩ u2).setCell ⟨wr.heap.size, 3, none⟩ u3).setCell ⟨wr.heap.size, 4, none⟩ u4).ownsRow w.heap.size 50 6 v k (sFlat ls)) := Lib.hid fun t w6 y d u1 u2 u3 u4 hr6 hb6 => by
    have hb : Below wr.heap.size wr ((((w6.setCell ⟨wr.heap.size, 1, none⟩ u1).setCell ⟨wr.heap.size, 2, none⟩ u2).setCell ⟨wr.heap.size, 3, none⟩ u3).setCell ⟨wr.heap.size, 4, none⟩ u4) :=
     (((((below_one wr _).trans (hb6.mono (by omega))).setCell (p := ⟨wr.heap.size, 1, none⟩) (Nat.le_refl _) u1).setCell (p := ⟨wr.heap.size, 2, none⟩) (Nat.le_refl _) u2).setCell (p := ⟨wr.heap.size, 3, none⟩) (Nat.le_refl _) u3).setCell (p := ⟨wr.heap.size, 4, none⟩) (Nat.le_refl _) u4
    have hrow := (HR.out.1.below hb).row
    rw [HLL.out] at hrow
    exact ⟨HR.out.1.below hb, HR.out.2.1.trans (hb.mono HR.out.2.1.size), rowSet (rowSet (rowSet (rowSet hr6 (by omega)) (by omega)) (by omega)) (by omega), hrow⟩
   have HNW : Hid (∀ (y : Option Addr) (d : Nat) (w6 : World), w6.ownsRow (wr.heap.size + 1) 9 1 (.slice y n2 d) n2 (ws.map Value.string) → NewW w.heap.size (ls ++ [⟨⟨nm, ⟨kd, it, tx, ws⟩, fr⟩, y, d⟩])) := Lib.hid fun y d w6 hr m hm b off hp e => by
    rcases List.mem_append.1 hm with hm | hm
    ·exact HR.out.2.2 m hm b off hp e
    ·rw [List.mem_singleton.1 hm] at e
     simp only at e
     have h1 := (hr.lt b (by rw [e]; rfl)).1
     have h2 := HR.out.2.1.size
     omega
   go_wp2_with fail
   refine (HOW.out _).mono ?_
   rintro e w6 ⟨y, d, rfl, hr6, hb6⟩
   have HE := Lib.hid (HST.out _ w6 y d (.int .i64 kd) (.int .i64 it) (.string tx) (.slice y n2 d) hr6 hb6)
   obtain ⟨c0, c1, c2, c3, c4, c5, z⟩ := (HSB.out _).below (w' := w6) (by rw [World.size_alloc]; exact hb6)
   have f1 := z 1
   have f2 := z 2
   have f3 := z 3
   have f4 := z 4
   simp only at c0 c1 c2 c3 c4 c5
   clear hr6 hb6 z HST HOW HSB x0' x1' e0 e1 e2 e3 e4 e5
   go_wp2_with (at_builtin; refine appendSt rfl _ _ rfl HE.out.2.2.2 HE.out.2.1.size (by omega) ⟨⟨nm, ⟨kd, it, tx, ws⟩, fr⟩, y, d⟩ _ (by simp [sCells, HN2.out]) rfl rfl (by simp) ?_; intro g9 cap9 w9 h1 h2 h3; have HS9 := Lib.hid (HE.out.1.push (m := ⟨⟨nm, ⟨kd, it, tx, ws⟩, fr⟩, y, d⟩) HN2.out HE.out.2.2.1 (by rw [HLL.out]; exact h1) h2 (fun g hg => by have : g9 = g := (by simpa [Value.ownBlock] using hg); rw [← this]; exact h3)); have HB9 := Lib.hid ((HE.out.2.1.alloc HE.out.2.1.size _).grown h2 (Nat.le_trans HE.out.2.1.size (below_one _ _).size) (fun q hq => (HE.out.2.2.2.lt q hq).1)); clear h1 h2 h3)
   go_roundw
   case rel => exact ⟨_, k + 1, ls ++ [⟨⟨nm, ⟨kd, it, tx, ws⟩, fr⟩, y, d⟩], rfl, by go_num, by omega, by rw [List.length_append, HLL.out]; rfl, by rw [List.map_append, HLX.out, HTK.out]; rfl, Lib.hid ⟨HS9.out, HB9.out, HNW.out y d _ HE.out.2.2.1⟩⟩
   case measure => simp [intOf]; omega
  ·obtain rfl : k = n := by omega
   have q2 : ¬ (k : Int) < k := by omega
   have HL2 : Hid (ls.map (·.x) = ms.map (·.x)) := Lib.hid (by rw [HLX.out, List.take_of_length_le (by rw [HN.out]; exact Nat.le_refl _)])
   go_wp2
   go_ret
   exact ⟨_, rfl, ls, HL2.out, HR.out.1, HR.out.2.1, HR.out.2.2⟩
end Go.Proofs.YtopghlnoklajkaaGreatDoor
