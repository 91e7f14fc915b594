/-
  ValueLists, KeyLetter.
-/
import Derived.Test.YtlcgfdijohgnpaaGreatDoorQValuePrint
import Derived.Test.YtlcgfdijohgnpaaGreatDoorQValueSame
import Derived.Deep.RegionHeld3
import Derived.Test.YtlcgfdijohgnpaaGreatDoorQKeyFind
import Derived.Test.YtlcgfdijohgnpaaGreatDoorQValueRight
namespace Go.Proofs.YtlcgfdijohgnpaaGreatDoor
open Go.ChangeShapes Go.WideShapes Go.ChangeAt Go.RowKit

end Go.Proofs.YtlcgfdijohgnpaaGreatDoor

namespace Go.Proofs.YtlcgfdijohgnpaaGreatDoor
open Go.ChangeShapes Go.WideShapes Go.ChangeAt Go.RowKit

def letterB (l : ByteArray) (k : KeyV) : Bool := !decide (k.letter = ⟨#[]⟩) && decide (k.letter = l)
def letterK (xs : List KeyV) (l : ByteArray) : Option KeyV := xs.find? (letterB l)
theorem letter_drop {xs : List KeyV} {l : ByteArray} {t : Nat} (h : t < xs.length) : letterK (xs.drop t) l = if letterB l xs[t] then some xs[t] else letterK (xs.drop (t + 1)) l := by
 unfold letterK
 rw [List.drop_eq_getElem_cons h, List.find?_cons]
 cases letterB l xs[t] <;> rfl
def oAgg (r : Option KeyV) : Value := .tuple #[kAgg (r.getD kZero), .bool r.isSome]

set_option maxHeartbeats 1600000 in
set_option maxRecDepth 100000 in
theorem letter_any (xs : List KeyV) (l : ByteArray) (S : Nat) (x : Option Addr) (c : Nat) (w : World) (h : SetAt w S x c xs) (hn : xs.length ≤ 1000000) :
  Calls Tryz.prog 88 #[.pointer (some ⟨S, 0, none⟩), .string l] w fun e w' => e = .returned (oAgg (letterK xs l)) ∧ Below w.heap.size w w' := by
 have HS := Lib.hid h
 have c0 : ∀ t, (w.alloc (Obj.cells #[.string ⟨#[]⟩, .int .i64 0, .string ⟨#[]⟩, .int .i64 0, .int .i64 0, .string ⟨#[]⟩] t)).cell? ⟨S, 0, none⟩ = some (.slice x xs.length c) := fun t => (h.below (below_one w _)).cell
 have HZ : Hid (∀ t, Box6 (w.alloc (Obj.cells #[.string ⟨#[]⟩, .int .i64 0, .string ⟨#[]⟩, .int .i64 0, .int .i64 0, .string ⟨#[]⟩] t)) w.heap.size kZero ∧ Below w.heap.size w (w.alloc (Obj.cells #[.string ⟨#[]⟩, .int .i64 0, .string ⟨#[]⟩, .int .i64 0, .int .i64 0, .string ⟨#[]⟩] t))) := Lib.hid fun t => ⟨box6_new w kZero t, below_one w _⟩
 have HD : Hid (letterK (xs.drop 0) l = letterK xs l) := Lib.hid rfl
 obtain ⟨r, hr⟩ : ∃ r, letterK xs l = r := ⟨_, rfl⟩
 rw [hr] at HD ⊢
 obtain ⟨n, hn'⟩ : ∃ n, xs.length = n := ⟨_, rfl⟩
 have HN := Lib.hid hn'
 rw [hn'] at hn c0
 clear h hr hn'
 go_enter Tryz.func88, Tryz.ntmps88
 go_wp2
 go_loopw [13, 7] (fun i _ wr => ∃ t : Nat, i = .int .i64 t ∧ t ≤ n ∧ Hid (Below w.heap.size w wr ∧ Box6 wr w.heap.size kZero ∧ letterK (xs.drop t) l = r)) (fun i _ _ => n - (intOf i).toNat)
 case atStart => exact ⟨0, rfl, by omega, Lib.hid ⟨(HZ.out _).2, (HZ.out _).1, HD.out⟩⟩
 case round =>
  clear HD HZ c0
  obtain ⟨t, rfl, ht, HK⟩ := hrel
  by_cases hlt : t < n
  ·have htx : t < xs.length := by rw [HN.out]; exact hlt
   obtain ⟨b, hxe, hbl, c0, c1, c2, c3, c4, c5⟩ := (HS.out.keys.below HK.out.1) t htx
   have hd := letter_drop (l := l) htx
   generalize xs[t] = k at c0 c1 c2 c3 c4 c5 hd
   obtain ⟨kn, kk, kd, kl, km, kt⟩ := k
   simp only at c0 c1 c2 c3 c4 c5
   have HE := Lib.hid (HK.out.2.2.symm.trans hd)
   have q1 : (0 : Int) ≤ t := by omega
   have q2 : (t : Int) < n := by omega
   subst hxe
   clear hd htx
   have HB6 : Hid (∀ p, Below w.heap.size w (wr.alloc (Obj.cells #[.string kn, .int .i64 kk, .string kd, .int .i64 kl, .int .i64 km, .string kt] p)) ∧ Box6 (wr.alloc (Obj.cells #[.string kn, .int .i64 kk, .string kd, .int .i64 kl, .int .i64 km, .string kt] p)) w.heap.size kZero) := Lib.hid fun p => ⟨HK.out.1.trans ((below_one wr _).mono HK.out.1.size), HK.out.2.1.below (below_one wr _)⟩
   by_cases he : kt = ⟨#[]⟩
   ·have HN2 : Hid (letterK (xs.drop (t + 1)) l = r) := Lib.hid (by
     have h1 := HE.out
     rw [show letterB l ⟨kn, kk, kd, kl, km, kt⟩ = false by unfold letterB; rw [decide_eq_true he]; rfl] at h1
     exact h1.symm)
    subst he
    clear HE
    go_wp2
    go_roundw
    case rel => exact ⟨t + 1, by go_num, by omega, Lib.hid ⟨(HB6.out _).1, (HB6.out _).2, HN2.out⟩⟩
    case measure => simp [intOf]; omega
   have d1 : kt.toList.isEmpty = false := emp_false' (fun h => he (by rw [← mkB_self kt, h]; rfl))
   by_cases hl : kt = l
   ·have HR : Hid (r = some ⟨kn, kk, kd, kl, km, kt⟩) := Lib.hid (by
     have h1 := HE.out
     rw [show letterB l ⟨kn, kk, kd, kl, km, kt⟩ = true by unfold letterB; rw [decide_eq_false he, decide_eq_true hl]; rfl] at h1
     exact h1)
    subst hl
    clear HE he
    have HS6 : Hid (∀ p, Box6 (set6 (wr.alloc (Obj.cells #[.string kn, .int .i64 kk, .string kd, .int .i64 kl, .int .i64 km, .string kt] p)) w.heap.size ⟨kn, kk, kd, kl, km, kt⟩) w.heap.size ⟨kn, kk, kd, kl, km, kt⟩ ∧ Below w.heap.size w (set6 (wr.alloc (Obj.cells #[.string kn, .int .i64 kk, .string kd, .int .i64 kl, .int .i64 km, .string kt] p)) w.heap.size ⟨kn, kk, kd, kl, km, kt⟩)) := Lib.hid fun p => ⟨(HB6.out p).2.set6 _, below_set6 (HB6.out p).1 (Nat.le_refl _) _⟩
    obtain ⟨b0, b1, b2, b3, b4, b5, bf⟩ := (HB6.out 90).2
    have f0 := bf 0 (by decide)
    have f1 := bf 1 (by decide)
    have f2 := bf 2 (by decide)
    have f3 := bf 3 (by decide)
    have f4 := bf 4 (by decide)
    have f5 := bf 5 (by decide)
    obtain ⟨g0, g1, g2, g3, g4, g5, _⟩ := (HS6.out 90).1
    have HF := Lib.hid (HS6.out 90).2
    unfold set6 at g0 g1 g2 g3 g4 g5 HF
    simp only at g0 g1 g2 g3 g4 g5 HF
    clear bf HS6 HB6
    go_wp2
    exact bodyPost_ret (v := .tuple #[.agg #[.string kn, .int .i64 kk, .string kd, .int .i64 kl, .int .i64 km, .string kt], .bool true]) (by simp [results, Tryz.results88, go_sem, g0, g1, g2, g3, g4, g5]) rfl ⟨ret_val (by rw [HR.out]; rfl), HF.out⟩
   ·have HN2 : Hid (letterK (xs.drop (t + 1)) l = r) := Lib.hid (by
     have h1 := HE.out
     rw [show letterB l ⟨kn, kk, kd, kl, km, kt⟩ = false by unfold letterB; rw [decide_eq_false hl, Bool.and_false]] at h1
     exact h1.symm)
    have d3 : (kt.toList == l.toList) = false := beq_eq_false_iff_ne.2 (fun h => hl (toList_inj h))
    clear HE he hl
    go_wp2
    go_roundw
    case rel => exact ⟨t + 1, by go_num, by omega, Lib.hid ⟨(HB6.out _).1, (HB6.out _).2, HN2.out⟩⟩
    case measure => simp [intOf]; omega
  ·have HR : Hid (r = none) := Lib.hid (by
    have h1 := HK.out.2.2
    rw [List.drop_eq_nil_of_le (by rw [HN.out]; omega)] at h1
    exact h1.symm)
   have q2 : ¬ (t : Int) < n := by omega
   have HS6 : Hid (Box6 (set6 wr w.heap.size kZero) w.heap.size kZero ∧ Below w.heap.size w (set6 wr w.heap.size kZero)) := Lib.hid ⟨HK.out.2.1.set6 _, below_set6 HK.out.1 (Nat.le_refl _) _⟩
   obtain ⟨b0, b1, b2, b3, b4, b5, bf⟩ := HK.out.2.1
   have f0 := bf 0 (by decide)
   have f1 := bf 1 (by decide)
   have f2 := bf 2 (by decide)
   have f3 := bf 3 (by decide)
   have f4 := bf 4 (by decide)
   have f5 := bf 5 (by decide)
   obtain ⟨g0, g1, g2, g3, g4, g5, _⟩ := HS6.out.1
   have HF := Lib.hid HS6.out.2
   unfold kZero at b0 b1 b2 b3 b4 b5
   unfold set6 kZero at g0 g1 g2 g3 g4 g5 HF
   simp only at b0 b1 b2 b3 b4 b5 g0 g1 g2 g3 g4 g5 HF
   clear bf HS6
   go_wp2
   exact bodyPost_ret (v := .tuple #[.agg #[.string ⟨#[]⟩, .int .i64 0, .string ⟨#[]⟩, .int .i64 0, .int .i64 0, .string ⟨#[]⟩], .bool false]) (by simp [results, Tryz.results88, go_sem, g0, g1, g2, g3, g4, g5]) rfl ⟨ret_val (by rw [HR.out]; rfl), HF.out⟩
end Go.Proofs.YtlcgfdijohgnpaaGreatDoor
