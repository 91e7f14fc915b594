/-
  ValueLists, KeyLetter, ValueArg, ValueTexts, ValueAll, But.
-/
import Derived.Test.YtopghlnoklajkaaGreatDoorQValuePrint
import Derived.Test.YtopghlnoklajkaaGreatDoorQValueSame
import Derived.Deep.RegionHeld3
import Derived.Test.YtopghlnoklajkaaGreatDoorQValueRight
import Derived.Test.YtopghlnoklajkaaGreatDoorQValueParse
import Derived.Laws.Rows
import Derived.Below
import Derived.WalkKit
namespace Go.Proofs.YtopghlnoklajkaaGreatDoor
open Go.ChangeShapes Go.WideShapes Go.ChangeAt Go.RowKit

end Go.Proofs.YtopghlnoklajkaaGreatDoor

namespace Go.Proofs.YtopghlnoklajkaaGreatDoor
open Go.ChangeShapes Go.WideShapes Go.ChangeAt Go.RowKit

def letterB (l : ByteArray) (k : KeyV) : Bool := !decide (k.letter = ⟨#[]⟩) && decide (k.letter = l)
def letterK (xs : List KeyV) (l : ByteArray) : Option KeyV := xs.find? (letterB l)
theorem letter_drop {xs : List KeyV} {l : ByteArray} {t : Nat} (h : t < xs.length) : letterK (xs.drop t) l = if letterB l xs[t] then some xs[t] else letterK (xs.drop (t + 1)) l := by
 unfold letterK
 rw [List.drop_eq_getElem_cons h, List.find?_cons]
 cases letterB l xs[t] <;> rfl
def oAgg (r : Option KeyV) : Value := .tuple #[kAgg (r.getD kZero), .bool r.isSome]

set_option maxHeartbeats 1600000 in
set_option maxRecDepth 100000 in
theorem letter_any (xs : List KeyV) (l : ByteArray) (S : Nat) (x : Option Addr) (c : Nat) (w : World) (h : SetAt w S x c xs) (hn : xs.length ≤ 1000000) :
  Calls Tryz.prog 61 #[.pointer (some ⟨S, 0, none⟩), .string l] w fun e w' => e = .returned (oAgg (letterK xs l)) ∧ Below w.heap.size w w' := by
 have HS := Lib.hid h
 have c0 : ∀ t, (w.alloc (Obj.cells #[.string ⟨#[]⟩, .int .i64 0, .string ⟨#[]⟩, .int .i64 0, .int .i64 0, .string ⟨#[]⟩] t)).cell? ⟨S, 0, none⟩ = some (.slice x xs.length c) := fun t => (h.below (below_one w _)).cell
 have HZ : Hid (∀ t, Box6 (w.alloc (Obj.cells #[.string ⟨#[]⟩, .int .i64 0, .string ⟨#[]⟩, .int .i64 0, .int .i64 0, .string ⟨#[]⟩] t)) w.heap.size kZero ∧ Below w.heap.size w (w.alloc (Obj.cells #[.string ⟨#[]⟩, .int .i64 0, .string ⟨#[]⟩, .int .i64 0, .int .i64 0, .string ⟨#[]⟩] t))) := Lib.hid fun t => ⟨box6_new w kZero t, below_one w _⟩
 have HD : Hid (letterK (xs.drop 0) l = letterK xs l) := Lib.hid rfl
 obtain ⟨r, hr⟩ : ∃ r, letterK xs l = r := ⟨_, rfl⟩
 rw [hr] at HD ⊢
 obtain ⟨n, hn'⟩ : ∃ n, xs.length = n := ⟨_, rfl⟩
 have HN := Lib.hid hn'
 rw [hn'] at hn c0
 clear h hr hn'
 go_enter Tryz.func61, Tryz.ntmps61
 go_wp2
 go_loopw [13, 7] (fun i _ wr => ∃ t : Nat, i = .int .i64 t ∧ t ≤ n ∧ Hid (Below w.heap.size w wr ∧ Box6 wr w.heap.size kZero ∧ letterK (xs.drop t) l = r)) (fun i _ _ => n - (intOf i).toNat)
 case atStart => exact ⟨0, rfl, by omega, Lib.hid ⟨(HZ.out _).2, (HZ.out _).1, HD.out⟩⟩
 case round =>
  clear HD HZ c0
  obtain ⟨t, rfl, ht, HK⟩ := hrel
  by_cases hlt : t < n
  ·have htx : t < xs.length := by rw [HN.out]; exact hlt
   obtain ⟨b, hxe, hbl, c0, c1, c2, c3, c4, c5⟩ := (HS.out.keys.below HK.out.1) t htx
   have hd := letter_drop (l := l) htx
   generalize xs[t] = k at c0 c1 c2 c3 c4 c5 hd
   obtain ⟨kn, kk, kd, kl, km, kt⟩ := k
   simp only at c0 c1 c2 c3 c4 c5
   have HE := Lib.hid (HK.out.2.2.symm.trans hd)
   have q1 : (0 : Int) ≤ t := by omega
   have q2 : (t : Int) < n := by omega
   subst hxe
   clear hd htx
   have HB6 : Hid (∀ p, Below w.heap.size w (wr.alloc (Obj.cells #[.string kn, .int .i64 kk, .string kd, .int .i64 kl, .int .i64 km, .string kt] p)) ∧ Box6 (wr.alloc (Obj.cells #[.string kn, .int .i64 kk, .string kd, .int .i64 kl, .int .i64 km, .string kt] p)) w.heap.size kZero) := Lib.hid fun p => ⟨HK.out.1.trans ((below_one wr _).mono HK.out.1.size), HK.out.2.1.below (below_one wr _)⟩
   by_cases he : kt = ⟨#[]⟩
   ·have HN2 : Hid (letterK (xs.drop (t + 1)) l = r) := Lib.hid (by
     have h1 := HE.out
     rw [show letterB l ⟨kn, kk, kd, kl, km, kt⟩ = false by unfold letterB; rw [decide_eq_true he]; rfl] at h1
     exact h1.symm)
    subst he
    clear HE
    go_wp2
    go_roundw
    case rel => exact ⟨t + 1, by go_num, by omega, Lib.hid ⟨(HB6.out _).1, (HB6.out _).2, HN2.out⟩⟩
    case measure => simp [intOf]; omega
   have d1 : kt.toList.isEmpty = false := emp_false' (fun h => he (by rw [← mkB_self kt, h]; rfl))
   by_cases hl : kt = l
   ·have HR : Hid (r = some ⟨kn, kk, kd, kl, km, kt⟩) := Lib.hid (by
     have h1 := HE.out
     rw [show letterB l ⟨kn, kk, kd, kl, km, kt⟩ = true by unfold letterB; rw [decide_eq_false he, decide_eq_true hl]; rfl] at h1
     exact h1)
    subst hl
    clear HE he
    have HS6 : Hid (∀ p, Box6 (set6 (wr.alloc (Obj.cells #[.string kn, .int .i64 kk, .string kd, .int .i64 kl, .int .i64 km, .string kt] p)) w.heap.size ⟨kn, kk, kd, kl, km, kt⟩) w.heap.size ⟨kn, kk, kd, kl, km, kt⟩ ∧ Below w.heap.size w (set6 (wr.alloc (Obj.cells #[.string kn, .int .i64 kk, .string kd, .int .i64 kl, .int .i64 km, .string kt] p)) w.heap.size ⟨kn, kk, kd, kl, km, kt⟩)) := Lib.hid fun p => ⟨(HB6.out p).2.set6 _, below_set6 (HB6.out p).1 (Nat.le_refl _) _⟩
    obtain ⟨b0, b1, b2, b3, b4, b5, bf⟩ := (HB6.out 73).2
    have f0 := bf 0 (by decide)
    have f1 := bf 1 (by decide)
    have f2 := bf 2 (by decide)
    have f3 := bf 3 (by decide)
    have f4 := bf 4 (by decide)
    have f5 := bf 5 (by decide)
    obtain ⟨g0, g1, g2, g3, g4, g5, _⟩ := (HS6.out 73).1
    have HF := Lib.hid (HS6.out 73).2
    unfold set6 at g0 g1 g2 g3 g4 g5 HF
    simp only at g0 g1 g2 g3 g4 g5 HF
    clear bf HS6 HB6
    go_wp2
    exact bodyPost_ret (v := .tuple #[.agg #[.string kn, .int .i64 kk, .string kd, .int .i64 kl, .int .i64 km, .string kt], .bool true]) (by simp [results, Tryz.results61, go_sem, g0, g1, g2, g3, g4, g5]) rfl ⟨ret_val (by rw [HR.out]; rfl), HF.out⟩
   ·have HN2 : Hid (letterK (xs.drop (t + 1)) l = r) := Lib.hid (by
     have h1 := HE.out
     rw [show letterB l ⟨kn, kk, kd, kl, km, kt⟩ = false by unfold letterB; rw [decide_eq_false hl, Bool.and_false]] at h1
     exact h1.symm)
    have d3 : (kt.toList == l.toList) = false := beq_eq_false_iff_ne.2 (fun h => hl (toList_inj h))
    clear HE he hl
    go_wp2
    go_roundw
    case rel => exact ⟨t + 1, by go_num, by omega, Lib.hid ⟨(HB6.out _).1, (HB6.out _).2, HN2.out⟩⟩
    case measure => simp [intOf]; omega
  ·have HR : Hid (r = none) := Lib.hid (by
    have h1 := HK.out.2.2
    rw [List.drop_eq_nil_of_le (by rw [HN.out]; omega)] at h1
    exact h1.symm)
   have q2 : ¬ (t : Int) < n := by omega
   have HS6 : Hid (Box6 (set6 wr w.heap.size kZero) w.heap.size kZero ∧ Below w.heap.size w (set6 wr w.heap.size kZero)) := Lib.hid ⟨HK.out.2.1.set6 _, below_set6 HK.out.1 (Nat.le_refl _) _⟩
   obtain ⟨b0, b1, b2, b3, b4, b5, bf⟩ := HK.out.2.1
   have f0 := bf 0 (by decide)
   have f1 := bf 1 (by decide)
   have f2 := bf 2 (by decide)
   have f3 := bf 3 (by decide)
   have f4 := bf 4 (by decide)
   have f5 := bf 5 (by decide)
   obtain ⟨g0, g1, g2, g3, g4, g5, _⟩ := HS6.out.1
   have HF := Lib.hid HS6.out.2
   unfold kZero at b0 b1 b2 b3 b4 b5
   unfold set6 kZero at g0 g1 g2 g3 g4 g5 HF
   simp only at b0 b1 b2 b3 b4 b5 g0 g1 g2 g3 g4 g5 HF
   clear bf HS6
   go_wp2
   exact bodyPost_ret (v := .tuple #[.agg #[.string ⟨#[]⟩, .int .i64 0, .string ⟨#[]⟩, .int .i64 0, .int .i64 0, .string ⟨#[]⟩], .bool false]) (by simp [results, Tryz.results61, go_sem, g0, g1, g2, g3, g4, g5]) rfl ⟨ret_val (by rw [HR.out]; rfl), HF.out⟩
end Go.Proofs.YtopghlnoklajkaaGreatDoor

namespace Go.Proofs.YtopghlnoklajkaaGreatDoor
open Go.ChangeShapes Go.WideShapes Go.ChangeAt Go.RowKit

theorem OwnT.arg {B : Nat} {w : World} {v : Val} {x : Option Addr} {cap : Nat} (h : OwnT B w x cap v.words) (hl : v.words.length ≤ 2147483647) (hs : ∀ k (h : k < v.words.length), v.words[k].size ≤ maxLen) (ht : v.text.size ≤ maxLen) : ArgOk w v x cap := by
 rcases h with ⟨rfl, hn, rfl⟩ | ⟨g, rfl, _, rfl, _, hg⟩
 ·exact ⟨by rw [hn]; exact Txts.nil_ _ _, by rw [hn]; exact Nat.le_refl _, by omega, hs, ht⟩
 ·refine ⟨fun k hk => ⟨g, 0, rfl, (Array.getElem?_eq_some_iff.1 hg).1, ?_⟩, Nat.le_refl _, by omega, hs, ht⟩
  rw [cell_of_row w g (0 + k) _ _ _ hg]; simp [hk]
theorem right_bounds {v : Val} (h : rightV v = true) : v.words.length ≤ 16 ∧ (∀ k (h : k < v.words.length), v.words[k].size ≤ 200) ∧ v.text.size ≤ 200 := by
 have hsz : ∀ b : ByteArray, b.data.toList = [] → b.size ≤ 200 := fun b hb => by
  have : b.data.toList.length = b.size := by simp
  rw [hb] at this; simp at this; omega
 have hnil : ∀ (n : Nat), n = 0 → v.words.length = n → v.words.length ≤ 16 ∧ ∀ k (h : k < v.words.length), v.words[k].size ≤ 200 := fun n h0 hn => ⟨by omega, fun k hk => absurd hk (by omega)⟩
 unfold rightV at h
 split at h
 ·simp only [Bool.and_eq_true, decide_eq_true_eq] at h
  exact ⟨(hnil 0 rfl h.2).1, (hnil 0 rfl h.2).2, hsz _ h.1.2⟩
 split at h
 ·simp only [Bool.and_eq_true, decide_eq_true_eq] at h
  exact ⟨(hnil 0 rfl h.2).1, (hnil 0 rfl h.2).2, hsz _ h.1.2⟩
 split at h
 ·simp only [Bool.and_eq_true, decide_eq_true_eq] at h
  exact ⟨(hnil 0 rfl h.2).1, (hnil 0 rfl h.2).2, hsz _ h.1.2⟩
 split at h
 ·simp only [Bool.and_eq_true, decide_eq_true_eq] at h
  refine ⟨(hnil 0 rfl h.2).1, (hnil 0 rfl h.2).2, ?_⟩
  have ht := h.1.2
  unfold textV at ht
  split at ht
  ·cases ht
  ·split at ht
   ·cases ht
   ·have : v.text.data.toList.length = v.text.size := by simp
    omega
 split at h
 ·simp only [Bool.and_eq_true, decide_eq_true_eq] at h
  obtain ⟨⟨_, ht⟩, hw⟩ := h
  unfold wordsRight at hw
  simp only [Bool.and_eq_true, decide_eq_true_eq] at hw
  refine ⟨hw.1.1, fun k hk => ?_, hsz _ ht⟩
  have hm : v.words[k].data.toList ∈ wl v.words := List.mem_map.2 ⟨_, List.getElem_mem hk, rfl⟩
  have := List.all_eq_true.1 hw.1.2 _ hm
  unfold wordB at this
  simp only [Bool.and_eq_true, decide_eq_true_eq] at this
  have hl : v.words[k].data.toList.length = v.words[k].size := by simp
  omega
 ·cases h
end Go.Proofs.YtopghlnoklajkaaGreatDoor

namespace Go.Proofs.YtopghlnoklajkaaGreatDoor

/-! Numerals -/
theorem isD_digit {d : Nat} (h : d < 10) : isD (UInt8.ofNat (48 + d)) = true := by
 have : ∀ d : Fin 10, isD (UInt8.ofNat (48 + d.val)) = true := by decide
 exact this ⟨d, h⟩
theorem digit_of {c : UInt8} (h : isD c = true) : UInt8.ofNat (48 + (c.toNat - 48)) = c := by
 have hb : 48 ≤ c.toNat ∧ c.toNat ≤ 57 := by simpa [isD] using h
 rw [show 48 + (c.toNat - 48) = c.toNat by omega]; simp
theorem dec_snoc (l : List UInt8) (c : UInt8) : dec (l ++ [c]) = dec l * 10 + (c.toNat - 48) := by
 unfold dec; rw [decAcc_append, decAcc_cons, decAcc_nil, decS_eq]
theorem digits_small {u : Nat} (h : u < 10) : Lib.decDigits u = [UInt8.ofNat (48 + u)] := Lib.decDigits_one h
theorem digits_big {u : Nat} (h : ¬ u < 10) : Lib.decDigits u = Lib.decDigits (u / 10) ++ [UInt8.ofNat (48 + u % 10)] := by rw [Lib.decDigits, dif_neg h]
theorem digits_all (u : Nat) : (Lib.decDigits u).all isD = true := by
 induction u using Nat.strongRecOn with
 | _ u ih =>
  by_cases h : u < 10
  ·rw [digits_small h, List.all_cons, isD_digit h]; rfl
  ·rw [digits_big h, List.all_append, ih _ (by omega), List.all_cons, isD_digit (show u % 10 < 10 by omega)]; rfl
theorem numOk_ne {l : List UInt8} (h : numOk l = true) : l ≠ [] := by
 rintro rfl; cases h
theorem dec_pos {c : UInt8} {r : List UInt8} (hd : isD c = true) (hc : c ≠ 48) : 1 ≤ dec (c :: r) := by
 have hb : 48 ≤ c.toNat ∧ c.toNat ≤ 57 := by simpa [isD] using hd
 have hn : c.toNat ≠ 48 := fun e => hc (UInt8.toNat_inj.1 e)
 unfold dec; rw [decAcc_cons, decS_eq]
 have := decAcc_ge (0 * 10 + (c.toNat - 48)) r
 omega
theorem numOk_iff' (c : UInt8) (r : List UInt8) : numOk (c :: r) = true ↔ (c :: r).all isD = true ∧ (c ≠ 48 ∨ r = []) := by
 rw [numOk_iff]; simp [List.isEmpty_iff]
theorem digits_dec : ∀ (n : Nat) (l : List UInt8), l.length = n → numOk l = true → Lib.decDigits (dec l) = l := by
 intro n
 induction n with
 | zero => intro l hl h; exact absurd (List.eq_nil_of_length_eq_zero hl) (numOk_ne h)
 | succ n ih =>
  intro l hl h
  obtain ⟨l', c, rfl⟩ : ∃ l' c, l = l' ++ [c] := ⟨l.dropLast, l.getLast (by intro e; rw [e] at hl; cases hl), (List.dropLast_concat_getLast _).symm⟩
  have hall := numOk_all h
  simp only [List.all_append, List.all_cons, List.all_nil, Bool.and_true, Bool.and_eq_true] at hall
  have hb : 48 ≤ c.toNat ∧ c.toNat ≤ 57 := by simpa [isD] using hall.2
  rw [dec_snoc]
  cases l' with
  | nil =>
   have : dec [] = 0 := by unfold dec; rw [decAcc_nil]
   rw [this, digits_small (by omega), show 48 + (0 * 10 + (c.toNat - 48)) = 48 + (c.toNat - 48) by omega, digit_of hall.2]; rfl
  | cons a r =>
   rw [List.cons_append, numOk_iff'] at h
   have ha : a ≠ 48 := by rcases h.2 with h2 | h2; exact h2; simp at h2
   have hda : isD a = true := by have := hall.1; simp only [List.all_cons, Bool.and_eq_true] at this; exact this.1
   have hp := dec_pos (r := r) hda ha
   have h' : numOk (a :: r) = true := (numOk_iff' a r).2 ⟨hall.1, Or.inl ha⟩
   have hi := ih (a :: r) (by simpa using hl) h'
   rw [digits_big (by omega), show (dec (a :: r) * 10 + (c.toNat - 48)) / 10 = dec (a :: r) by omega, show (dec (a :: r) * 10 + (c.toNat - 48)) % 10 = c.toNat - 48 by omega, hi, digit_of hall.2]
theorem numeral_of {l : List UInt8} (h : numOk l = true) : Lib.decDigits (dec l) = l := digits_dec _ l rfl h
/-! Int -/
theorem whole_cases {s : List UInt8} (h : (wholeV s).2 = 0) : numOk (unsg s) = true ∧ ¬ (negOf s = true ∧ dec (unsg s) = 0) ∧ dec (unsg s) ≤ 4611686018427387904 ∧ (wholeV s).1 = if negOf s then -(dec (unsg s) : Int) else (dec (unsg s) : Int) := by
 unfold wholeV at h ⊢
 by_cases h1 : numOk (unsg s) = false ∨ (negOf s = true ∧ dec (unsg s) = 0)
 ·rw [if_pos h1] at h; cases h
 rw [if_neg h1] at h ⊢
 by_cases h2 : 4611686018427387904 < dec (unsg s)
 ·rw [if_pos h2] at h; cases h
 rw [if_neg h2]
 exact ⟨by cases hq : numOk (unsg s) with
  | true => rfl
  | false => exact absurd (Or.inl hq) h1, fun hh => h1 (Or.inr hh), by omega, rfl⟩
theorem whole_bd {s : List UInt8} (h : (wholeV s).2 = 0) : -4611686018427387904 ≤ (wholeV s).1 ∧ (wholeV s).1 ≤ 4611686018427387904 := by
 obtain ⟨_, _, h2, h3⟩ := whole_cases h
 rw [h3]; split <;> omega
theorem whole_text {s : List UInt8} (h : (wholeV s).2 = 0) : Lib.itoa (wholeV s).1 = s := by
 obtain ⟨h0, h1, h2, h3⟩ := whole_cases h
 rw [h3]
 have hn := numeral_of h0
 cases hg : negOf s with
 | true =>
  have hd : ¬ dec (unsg s) = 0 := fun e => h1 ⟨hg, e⟩
  have hs : s = 45 :: unsg s := by
   cases s with
   | nil => cases hg
   | cons c r =>
    have : c = 45 := by simpa [negOf] using hg
    subst this; rfl
  rw [if_pos rfl]
  unfold Lib.itoa
  rw [if_pos (by omega), show (-(dec (unsg s) : Int)).natAbs = dec (unsg s) by omega, hn]
  exact hs.symm
 | false =>
  have hs : unsg s = s := by unfold unsg; rw [hg]; rfl
  rw [if_neg (by decide)]
  unfold Lib.itoa
  rw [if_neg (by omega), show ((dec (unsg s) : Int)).toNat = dec (unsg s) by omega, hn, hs]

/-! Size and Span -/
theorem united_bd {k : Int} {s : List UInt8} (h : (unitedV k s).2 = 0) : 0 ≤ (unitedV k s).1 ∧ (unitedV k s).1 ≤ mostV k := by
 unfold unitedV at h ⊢
 have hu := unit_bd k (s.dropWhile isD)
 have hs : 0 ≤ spanU k s := by unfold spanU; split <;> omega
 by_cases h1 : numOk (s.takeWhile isD) = false ∨ spanU k s = 0
 ·rw [if_pos h1] at h; cases h
 rw [if_neg h1] at h ⊢
 by_cases h2 : mostV k / spanU k s < dec (s.takeWhile isD)
 ·rw [if_pos h2] at h; cases h
 rw [if_neg h2]
 have h3 : ¬ spanU k s = 0 := fun e => h1 (Or.inr e)
 exact ⟨Int.mul_nonneg (by omega) hs, Int.mul_le_of_le_ediv (by omega) (by omega)⟩

/-! Words -/
theorem join_pieces : ∀ s : List UInt8, ∃ x r, pieces s = x :: r ∧ x ++ Lib.joinTail [44] r = s := by
 intro s
 induction s with
 | nil => exact ⟨[], [], rfl, rfl⟩
 | cons c s ih =>
  obtain ⟨x, r, h1, h2⟩ := ih
  by_cases hc : c = 44
  ·subst hc
   refine ⟨[], pieces s, pieces_comma s, ?_⟩
   rw [h1]
   have e : Lib.joinTail [44] (x :: r) = 44 :: (x ++ Lib.joinTail [44] r) := by simp [Lib.joinTail]
   rw [e, h2]; rfl
  ·refine ⟨c :: x, r, ?_, ?_⟩
   ·simp only [pieces]; rw [if_neg hc, h1]
   ·rw [List.cons_append, h2]
theorem join_of_pieces (s : List UInt8) : Lib.join (pieces s) [44] = s := by
 obtain ⟨x, r, h1, h2⟩ := join_pieces s
 rw [h1, Lib.join_cons, h2]
theorem wl_mk (l : List (List UInt8)) : wl (l.map mkB) = l := by
 unfold wl; rw [List.map_map]; exact List.map_id'' (fun x => rfl) l
theorem words_cases {s : List UInt8} (h : wordsV s = 0) : (wordsOf s).length ≤ 16 ∧ allWords (wl (wordsOf s)) = true ∧ joinW (wordsOf s) = s ∧ s.length ≤ 200 := by
 unfold wordsV at h
 by_cases h0 : s = []
 ·subst h0; exact ⟨by decide, rfl, rfl, by simp⟩
 rw [if_neg h0] at h
 cases ha : allWords (pieces s) with
 | false => rw [ha] at h; simp at h
 | true =>
  rw [ha, if_neg (by decide)] at h
  by_cases h2 : 200 < s.length ∨ 16 < (pieces s).length
  ·rw [if_pos h2] at h; cases h
  have e : wordsOf s = (pieces s).map mkB := by unfold wordsOf; rw [if_neg h0]
  refine ⟨by rw [e, List.length_map]; omega, by rw [e, wl_mk]; exact ha, by unfold joinW; rw [e, wl_mk]; exact join_of_pieces s, by omega⟩
end Go.Proofs.YtopghlnoklajkaaGreatDoor

namespace Go.Proofs.YtopghlnoklajkaaGreatDoor

theorem bool_cases (s : List UInt8) : boolV s = (1, 0) ∨ boolV s = (0, 0) ∨ boolV s = (0, 40) := by
 unfold boolV; repeat' split
 all_goals simp
theorem intOk_zero {k : Int} {r : Int × Int} (h : (intOk k r).2 = 0) : r.2 = 0 ∧ (intOk k r).1 = ⟨k, r.1, ⟨#[]⟩, []⟩ := by
 unfold intOk at h ⊢
 by_cases h0 : r.2 = 0
 ·rw [if_pos h0]; exact ⟨h0, rfl⟩
 ·rw [if_neg h0] at h; exact absurd h h0
theorem read_right {k : Int} {s : ByteArray} (h : (parseV k s).2 = 0) : rightV (parseV k s).1 = true ∧ (parseV k s).1.kind = k ∧ ((k = 2 ∨ k = 5 ∨ k = 6) → printV (parseV k s).1 = s.data.toList) := by
 by_cases h1 : k = 1
 ·subst h1; rw [parse1] at h ⊢
  obtain ⟨e, q⟩ := intOk_zero h
  rw [q]
  refine ⟨?_, rfl, by omega⟩
  rcases bool_cases s.data.toList with b | b | b <;> rw [b] at e ⊢
  ·rfl
  ·rfl
  ·cases e
 by_cases h2 : k = 2
 ·subst h2; rw [parse2] at h ⊢
  obtain ⟨e, q⟩ := intOk_zero h
  have hb := whole_bd e
  rw [q]
  refine ⟨?_, rfl, fun _ => whole_text e⟩
  unfold rightV; rw [if_neg (by simp only; omega), if_pos rfl, decide_eq_true hb]; rfl
 by_cases h3 : k = 3 ∨ k = 4
 ·have hp : parseV k s = intOk k (unitedV k s.data.toList) := by
   rcases h3 with rfl | rfl
   ·exact parse3 s
   ·exact parse4 s
  rw [hp] at h ⊢
  obtain ⟨e, q⟩ := intOk_zero h
  have hb := united_bd e
  rw [q]
  refine ⟨?_, rfl, by omega⟩
  unfold rightV; rw [if_neg (by simp only; omega), if_neg (by simp only; omega), if_pos h3, decide_eq_true hb]; rfl
 by_cases h5 : k = 5
 ·subst h5; rw [parse5] at h ⊢
  unfold textR at h ⊢
  by_cases ht : textV s.data.toList = 0
  ·rw [if_pos ht]
   refine ⟨?_, rfl, fun _ => rfl⟩
   unfold rightV; rw [if_neg (by simp only; omega), if_neg (by simp only; omega), if_neg (by simp only; omega), if_pos rfl, decide_eq_true ht]; rfl
  ·rw [if_neg ht] at h; exact absurd h ht
 by_cases h6 : k = 6
 ·subst h6; rw [parse6] at h ⊢
  unfold listR at h ⊢
  by_cases ht : wordsV s.data.toList = 0
  ·rw [if_pos ht]
   obtain ⟨w1, w2, w3, w4⟩ := words_cases ht
   refine ⟨?_, rfl, fun _ => w3⟩
   unfold rightV wordsRight
   rw [if_neg (by simp only; omega), if_neg (by simp only; omega), if_neg (by simp only; omega), if_neg (by simp only; omega), if_pos rfl]
   simp only
   rw [w2, w3, decide_eq_true w1, decide_eq_true w4]; rfl
  ·rw [if_neg ht] at h; exact absurd h ht
 ·rw [parse0 h1 h2 (by omega) (by omega) h5 h6] at h; cases h
end Go.Proofs.YtopghlnoklajkaaGreatDoor

namespace Go.Proofs.YtopghlnoklajkaaGreatDoor
open Go.RowKit

def But (S : Nat) (w w' : World) : Prop := w'.os = w.os ∧ w'.tape = w.tape ∧ w'.output = w.output ∧ w.heap.size ≤ w'.heap.size ∧ ∀ k, k < w.heap.size → k ≠ S → w'.heap[k]? = w.heap[k]?
theorem But.of_below {S : Nat} {w w' : World} (h : Below w.heap.size w w') : But S w w' := ⟨h.os, h.tape, h.output, h.size, fun k hk _ => h.block k hk⟩
theorem But.setCell {S : Nat} {w w' : World} (h : But S w w') (i : Nat) (u : Value) : But S w (w'.setCell ⟨S, i, none⟩ u) :=
 ⟨h.1, h.2.1, h.2.2.1, by simpa using h.2.2.2.1, fun k hk hn => by rw [Below.heap_setCell _ _ _ _ hn]; exact h.2.2.2.2 k hk hn⟩
theorem But.below {S B : Nat} {w w' : World} (h : But S w w') (hB : B ≤ S) (hw : B ≤ w.heap.size) : Below B w w' := ⟨h.1, h.2.1, h.2.2.1, h.2.2.2.1, fun k hk => h.2.2.2.2 k (by omega) (by omega)⟩
theorem But.refl (S : Nat) (w : World) : But S w w := ⟨rfl, rfl, rfl, Nat.le_refl _, fun _ _ _ => rfl⟩
theorem But.then_below {S : Nat} {a b c : World} (h : But S a b) (k : Below b.heap.size b c) : But S a c :=
 ⟨k.os.trans h.1, k.tape.trans h.2.1, k.output.trans h.2.2.1, Nat.le_trans h.2.2.2.1 k.size, fun x hx hn => (k.block x (Nat.lt_of_lt_of_le hx h.2.2.2.1)).trans (h.2.2.2.2 x hx hn)⟩
theorem But.cell {S : Nat} {w w' : World} (h : But S w w') {p : Addr} (hp : p.block < w.heap.size) (hn : p.block ≠ S) : w'.cell? p = w.cell? p := by
 have := h.2.2.2.2 p.block hp hn
 unfold World.cell?; rw [this]
end Go.Proofs.YtopghlnoklajkaaGreatDoor
