/-
  StpDec, StpStd, StpDbl.
-/
import Derived.Test.YticcdighfojjjaaGreatDoorQStpDoes
import Derived.Lib.ParseIntB
import Derived.Test.YticcdighfojjjaaGreatDoorQGlyphFold
import Derived.Test.YticcdighfojjjaaGreatDoorShelf
import Derived.Lib.ItoaMem
import Derived.Lib.AtoiErrMem
import Derived.Sort.Grow
import Derived.WalkKit
import Derived.Test.YticcdighfojjjaaGreatDoorShelfG
import Derived.Test.YticcdighfojjjaaGreatDoorQStpCall
namespace Go.Proofs.YticcdighfojjjaaGreatDoor

theorem n_numOk_iff (c : UInt8) (r : List UInt8) : numOk (c :: r) = ((c :: r).all isD && (c != 48 || r.isEmpty)) := rfl
theorem n_numOk_all {l : List UInt8} (h : numOk l = true) : l.all isD = true := by
  unfold numOk at h; simp only [Bool.and_eq_true] at h; exact h.1
theorem n_isD_digit {d : Nat} (h : d < 10) : isD (UInt8.ofNat (48 + d)) = true := by
  have : ∀ d : Fin 10, isD (UInt8.ofNat (48 + d.val)) = true := by decide
  exact this ⟨d, h⟩
theorem n_digit_val {d : Nat} (h : d < 10) : (UInt8.ofNat (48 + d)).toNat - 48 = d := by
  have : ∀ d : Fin 10, (UInt8.ofNat (48 + d.val)).toNat - 48 = d.val := by decide
  exact this ⟨d, h⟩
theorem n_digit_of {c : UInt8} (h : isD c = true) : UInt8.ofNat (48 + (c.toNat - 48)) = c := by
  have hb : 48 ≤ c.toNat ∧ c.toNat ≤ 57 := by simpa [isD] using h
  rw [show 48 + (c.toNat - 48) = c.toNat by omega]; simp
theorem n_dec_snoc (l : List UInt8) (c : UInt8) : dec (l ++ [c]) = dec l * 10 + (c.toNat - 48) := by
  unfold dec; rw [decAcc_append, decAcc_cons, decAcc_nil, decS_eq]
theorem n_digits_small {u : Nat} (h : u < 10) : Lib.decDigits u = [UInt8.ofNat (48 + u)] := Lib.decDigits_one h
theorem n_digits_big {u : Nat} (h : ¬ u < 10) : Lib.decDigits u = Lib.decDigits (u / 10) ++ [UInt8.ofNat (48 + u % 10)] := by rw [Lib.decDigits, dif_neg h]
theorem n_dec_digits (u : Nat) : dec (Lib.decDigits u) = u := by
  induction u using Nat.strongRecOn with
  | _ u ih =>
    by_cases h : u < 10
    · rw [n_digits_small h, show [UInt8.ofNat (48 + u)] = [] ++ [UInt8.ofNat (48 + u)] from rfl, n_dec_snoc, n_digit_val h]
      unfold dec; rw [decAcc_nil]; omega
    · rw [n_digits_big h, n_dec_snoc, ih _ (by omega), n_digit_val (by omega)]; omega
theorem n_digits_all (u : Nat) : (Lib.decDigits u).all isD = true := by
  induction u using Nat.strongRecOn with
  | _ u ih =>
    by_cases h : u < 10
    · rw [n_digits_small h, List.all_cons, n_isD_digit h]; rfl
    · rw [n_digits_big h, List.all_append, ih _ (by omega), List.all_cons, n_isD_digit (show u % 10 < 10 by omega)]; rfl
/-- A numeral's first digit is no 0, but of 0. -/
theorem n_digits_head (u : Nat) (h : 1 ≤ u) : ∃ c r, Lib.decDigits u = c :: r ∧ c ≠ 48 := by
  induction u using Nat.strongRecOn with
  | _ u ih =>
    by_cases hu : u < 10
    · refine ⟨_, [], n_digits_small hu, ?_⟩
      have : ∀ d : Fin 10, 1 ≤ d.val → UInt8.ofNat (48 + d.val) ≠ 48 := by decide
      exact this ⟨u, hu⟩ h
    · obtain ⟨c, r, e, hc⟩ := ih (u / 10) (by omega) (by omega)
      exact ⟨c, r ++ [_], by rw [n_digits_big hu, e]; rfl, hc⟩
theorem n_digits_ok (u : Nat) : numOk (Lib.decDigits u) = true := by
  unfold numOk
  rw [n_digits_all]
  by_cases h : u = 0
  · subst h; rw [n_digits_small (by decide)]; rfl
  · obtain ⟨c, r, e, hc⟩ := n_digits_head u (by omega)
    rw [e]; simp [hc]
theorem n_numOk_ne {l : List UInt8} (h : numOk l = true) : l ≠ [] := by
  rintro rfl; cases h
theorem n_dec_pos {c : UInt8} {r : List UInt8} (hd : isD c = true) (hc : c ≠ 48) : 1 ≤ dec (c :: r) := by
  have hb : 48 ≤ c.toNat ∧ c.toNat ≤ 57 := by simpa [isD] using hd
  have hn : c.toNat ≠ 48 := fun e => hc (UInt8.toNat_inj.1 e)
  unfold dec; rw [decAcc_cons, decS_eq]
  have := decAcc_ge (0 * 10 + (c.toNat - 48)) r
  omega
theorem n_numOk_iff' (c : UInt8) (r : List UInt8) : numOk (c :: r) = true ↔ (c :: r).all isD = true ∧ (c ≠ 48 ∨ r = []) := by
  rw [n_numOk_iff]; simp [List.isEmpty_iff]
/-- A number's text is the numeral of what it says. -/
theorem n_digits_dec : ∀ (n : Nat) (l : List UInt8), l.length = n → numOk l = true → Lib.decDigits (dec l) = l := by
  intro n
  induction n with
  | zero => intro l hl h; exact absurd (List.eq_nil_of_length_eq_zero hl) (n_numOk_ne h)
  | succ n ih =>
    intro l hl h
    obtain ⟨l', c, rfl⟩ : ∃ l' c, l = l' ++ [c] := ⟨l.dropLast, l.getLast (by intro e; rw [e] at hl; cases hl), (List.dropLast_concat_getLast _).symm⟩
    have hall := n_numOk_all h
    simp only [List.all_append, List.all_cons, List.all_nil, Bool.and_true, Bool.and_eq_true] at hall
    have hb : 48 ≤ c.toNat ∧ c.toNat ≤ 57 := by simpa [isD] using hall.2
    rw [n_dec_snoc]
    cases l' with
    | nil =>
      have : dec [] = 0 := by unfold dec; rw [decAcc_nil]
      rw [this, n_digits_small (by omega), show 48 + (0 * 10 + (c.toNat - 48)) = 48 + (c.toNat - 48) by omega, n_digit_of hall.2]; rfl
    | cons a r =>
      rw [List.cons_append, n_numOk_iff'] at h
      have ha : a ≠ 48 := by rcases h.2 with h2 | h2; exact h2; simp at h2
      have hda : isD a = true := by have := hall.1; simp only [List.all_cons, Bool.and_eq_true] at this; exact this.1
      have hp := n_dec_pos (r := r) hda ha
      have h' : numOk (a :: r) = true := (n_numOk_iff' a r).2 ⟨hall.1, Or.inl ha⟩
      have hi := ih (a :: r) (by simpa using hl) h'
      rw [n_digits_big (by omega), show (dec (a :: r) * 10 + (c.toNat - 48)) / 10 = dec (a :: r) by omega, show (dec (a :: r) * 10 + (c.toNat - 48)) % 10 = c.toNat - 48 by omega, hi, n_digit_of hall.2]
theorem n_numeral_of {l : List UInt8} (h : numOk l = true) : Lib.decDigits (dec l) = l := n_digits_dec _ l rfl h

theorem parse_num : ∀ (l : List UInt8) (acc : Nat), l.all isD = true → decAcc acc l ≤ 2147483648 → Lib.parseUintM (2 ^ 64 - 1) acc l = .ok (decAcc acc l)
  | [], acc, _, _ => by rw [decAcc_nil]; rfl
  | c :: r, acc, h, hd => by
    simp only [List.all_cons, Bool.and_eq_true] at h
    have hb : 48 ≤ c.toNat ∧ c.toNat ≤ 57 := by simpa [isD] using h.1
    rw [decAcc_cons] at hd ⊢
    have hs := decS_eq acc c
    have hg := decAcc_ge (decS acc c) r
    unfold Lib.parseUintM
    have h64 : (2 : Nat) ^ 64 = 18446744073709551616 := by decide
    rw [if_pos hb, if_neg (by omega), if_neg (by rw [← hs]; omega), ← hs]
    exact parse_num r _ h.2 hd
/-- What is doubled is parsed, and is written as it was. -/
theorem double_parse {l : List UInt8} (h : numOk l = true ∧ dec l ≤ 2147483648) : Lib.parseUintB 64 l = .ok (dec l) ∧ Lib.decDigits (dec l) = l := by
  refine ⟨?_, n_numeral_of h.1⟩
  unfold Lib.parseUintB
  rw [if_neg (n_numOk_ne h.1)]
  refine parse_num l 0 ?_ h.2
  have := h.1
  unfold numOk at this
  rw [Bool.and_eq_true] at this
  exact this.1
/-- What is parsed, is small enough, and is written as it was, is doubled. -/
theorem parse_double {l : List UInt8} {u : Nat} (h2 : u ≤ 2147483648) (h3 : Lib.decDigits u = l) : numOk l = true ∧ dec l ≤ 2147483648 := by
  subst h3
  exact ⟨n_digits_ok u, by rw [n_dec_digits]; exact h2⟩
end Go.Proofs.YticcdighfojjjaaGreatDoor

namespace Go.Proofs.YticcdighfojjjaaGreatDoor
open Go.ChangeShapes Go.WideShapes Go.ChangeAt Go.RowKit Go.Sort Go.Lib

theorem var?_belowS {P : Program} {B g : Nat} {W W' : World} {n : String} {cs : Array Value} (h : Below B W W') (hg : P.globalNamed n = some g) (hgB : g < B) (hv : W.var? P n = some cs) : W'.var? P n = some cs := by
  unfold World.var? at hv ⊢
  rw [hg] at hv ⊢
  simp only [Option.bind_some] at hv ⊢
  rw [h.block g hgB]; exact hv
/-- The table of the powers of ten. -/
def PowS (w : World) : Prop := Lib.TabIs Tryz.prog w (Rows.stepStandsRow.named[6]!) .u64 Lib.pow10Tab
/-- What the program's calls want of a world. -/
structure StdS (w : World) : Prop where
  tab : Tab w
  pow : PowS w
  powIn : 8 < w.heap.size
  syn : ∃ te pe, w.cell? ⟨6, 0, none⟩ = some (.iface te pe)
  rng : ∃ te pe, w.cell? ⟨7, 0, none⟩ = some (.iface te pe)
theorem StdS.below {w w' : World} (h : StdS w) (hb : Below w.heap.size w w') : StdS w' := by
  refine ⟨h.tab.below hb, var?_belowS (g := 8) hb (by kernel_rfl) h.powIn h.pow, Nat.lt_of_lt_of_le h.powIn hb.size, ?_, ?_⟩
  · obtain ⟨te, pe, hc⟩ := h.syn
    exact ⟨te, pe, by rw [hb.cell (p := ⟨6, 0, none⟩) (World.block_lt_of_cell? w _ hc)]; exact hc⟩
  · obtain ⟨te, pe, hc⟩ := h.rng
    exact ⟨te, pe, by rw [hb.cell (p := ⟨7, 0, none⟩) (World.block_lt_of_cell? w _ hc)]; exact hc⟩
theorem below_growS (w : World) (k : Nat) (os : Array Obj) : Below w.heap.size w (Go.Sort.grow (w.drewN k) os) := ⟨rfl, rfl, rfl, by rw [Go.Sort.size_grow]; exact Nat.le_add_right _ _, fun k hk => Go.Sort.heap_grow_old _ _ hk⟩
theorem sclone_any (s : ByteArray) (w : World) (h : s.size ≤ 281474976710656) :
    Calls Tryz.prog 61 #[.string s] w fun e w' => e = .returned (.string s) ∧ Below w.heap.size w w' := by
  go_enter Tryz.func61, Tryz.ntmps61
  go_wp2_with fail
  refine (Any.stringslite_Clone Tryz.laysM316 s _ h).mono ?_
  rintro e w' ⟨rfl, hb⟩
  go_wp2
  go_ret
  exact ⟨rfl, hb⟩
theorem fin_pos0 (w : World) (o : Obj) (dk : Array UInt8) (k : Nat) : ∃ os, (putRow (fun (b : UInt8) => Value.int .u8 (b.toNat : Int)) (w.alloc o) w.heap.size 0 dk).drewN k = grow (w.drewN k) os := by
  rw [alloc_eq_grow]
  obtain ⟨os', _, e⟩ := putRow_grow_new (fun (b : UInt8) => Value.int .u8 (b.toNat : Int)) w #[o] w.heap.size 0 dk (Nat.le_refl _)
  exact ⟨os', by rw [e]; rfl⟩
theorem zeros0 (w : World) (T : TypeId) (nd : Nat) (hs : nd ≤ 24) : Holds (fun (b : UInt8) => Value.int .u8 (b.toNat : Int)) (w.alloc (.cells Lib.zeros24 T)) w.heap.size 0 (Array.replicate nd (0 : UInt8)) := fun j hj => by
  have hj' : j < nd := by simpa using hj
  refine ⟨?_, World.frozen?_alloc_new _ _ _ _⟩
  rw [World.cell?_alloc_new, zeros24_at _ (by omega), getElem!_pos _ j hj]
  simp
set_option maxHeartbeats 6400000 in
set_option maxRecDepth 100000 in
/-- internal/strconv.FormatUint at base 10: the numeral. -/
theorem ifmtU_any (u : Nat) (hu64 : u < 18446744073709551616) (w : World) (htab : PowS w) :
    Calls Tryz.prog 97 #[.int .u64 (u : Int), .int .i64 10] w fun e w' => e = .returned (.string (mkB (Lib.decDigits u))) ∧ ∃ k os, w' = Go.Sort.grow (w.drewN k) os := by
  by_cases hs : u < 100
  · go_enter Tryz.func97, Tryz.ntmps97
    have wr : IntKind.i64.wrap (u : Int) = u := IntWalk.i64_in _ (by omega)
    go_wp2_with (go_at_call 121; refine (Any.internal_strconv_small Tryz.lays283 u hs _).mono ?_; rintro e w' ⟨rfl, rfl⟩)
    go_ret
    exact ⟨rfl, 0, #[], by simp [World.drewN_zero]⟩
  · have hu1 : 1 ≤ u := by omega
    have hnd20 : Lib.nDigits u ≤ 20 := by have := Lib.numDigits_eq u hu1 hu64; split at this <;> omega
    have hb3 : Lib.nDigits u ≤ 24 := by omega
    have hal : Tryz.prog.arrayLen 127 = 24 := by kernel_rfl
    have hsl1 : ∀ W, (Instr.sliceAt 127 (.pointer (some ⟨w.heap.size, 0, none⟩)) none (some (.int .i64 (Lib.nDigits u : Int))) none).run Tryz.prog W = .ok (.slice (some ⟨w.heap.size, 0, none⟩) (Lib.nDigits u) 24) W := fun W => by
      rw [run_sliceAt_array_h W 127 ⟨w.heap.size, 0, none⟩ (by kernel_rfl) .i64 (Lib.nDigits u : Int) (by omega) (by rw [hal]; omega)]
      go_simp
    have hH0 := zeros0 w 127 (Lib.nDigits u) hb3
    have hfmt := Any.internal_strconv_formatBase10 Tryz.lays285 w.heap.size 0 24 u (Array.replicate (Lib.nDigits u) 0) (w.alloc (.cells Lib.zeros24 127)) hH0 (by rw [Array.size_replicate]; exact Lib.lt_pow_nDigits u) hu64 (by rw [Array.size_replicate]; omega)
    rw [Array.size_replicate] at hfmt
    have HH0 := Lib.hid hH0
    have n100 : ¬ (u : Int) < 100 := by omega
    clear hH0 hal hs
    go_enter Tryz.func97, Tryz.ntmps97
    go_wp2_with (first
      | (go_at_call 122; refine (Any.internal_strconv_numDigits Tryz.laysM284 u hu1 hu64 _ (Lib.tabIs_alloc htab _)).mono ?_; rintro e w' ⟨rfl, rfl⟩)
      | (go_at_call 123; refine hfmt.mono ?_; rintro e w' ⟨rfl, k, v', dk, rfl, hF⟩; refine Hid.out ?_))
    refine Lib.hid ?_
    have hcv : (convert 59 9 (.slice (some ⟨w.heap.size, 0, none⟩) (Lib.nDigits u) 24)).run Tryz.prog ((putRow (fun (b : UInt8) => Value.int .u8 (b.toNat : Int)) (w.alloc (.cells Lib.zeros24 127)) w.heap.size 0 dk).drewN k) = .ok (.string (mkB (Lib.decDigits u))) ((putRow (fun (b : UInt8) => Value.int .u8 (b.toNat : Int)) (w.alloc (.cells Lib.zeros24 127)) w.heap.size 0 dk).drewN k) := by
      have h := run_convert_bytes_back (P := Tryz.prog) ((putRow (fun (b : UInt8) => Value.int .u8 (b.toNat : Int)) (w.alloc (.cells Lib.zeros24 127)) w.heap.size 0 dk).drewN k) 59 9 5 ⟨w.heap.size, 0, none⟩ 24 (Lib.decDigits u) Tryz.underlying59 Tryz.underlying5 Tryz.underlying9 (fun j hj => by
        rw [Lib.row_is_numeral hF j hj, Lib.add_plain, World.cell?_drewN]
        exact cell?_putRow (fun (b : UInt8) => Value.int .u8 (b.toNat : Int)) _ w.heap.size 0 _ dk HH0.out (by rw [hF.size, Array.size_replicate]) j (by rw [hF.size]; rw [Lib.decDigits_length] at hj; exact hj))
      rw [Lib.decDigits_length] at h
      exact h
    go_wp2
    go_ret
    obtain ⟨os, eo⟩ := fin_pos0 w (.cells Lib.zeros24 127) dk k
    exact ⟨rfl, k, os, eo⟩
theorem fmtU_any (u : Nat) (hu64 : u < 18446744073709551616) (w : World) (hS : StdS w) :
    Calls Tryz.prog 74 #[.int .u64 (u : Int), .int .i64 10] w fun e w' => e = .returned (.string (mkB (Lib.decDigits u))) ∧ Below w.heap.size w w' := by
  have HF := Lib.hid (ifmtU_any u hu64 w hS.pow)
  clear hS
  go_enter Tryz.func74, Tryz.ntmps74
  go_wp2_with (go_at_call 97; refine HF.out.mono ?_; rintro e w' ⟨rfl, k, os, rfl⟩)
  go_ret
  exact ⟨rfl, below_growS _ _ _⟩
end Go.Proofs.YticcdighfojjjaaGreatDoor

namespace Go.Proofs.YticcdighfojjjaaGreatDoor
open Go.ChangeShapes Go.WideShapes Go.ChangeAt Go.RowKit Go.Sort Go.Lib

/-- What a function answers: the text, and whether it made one. -/
def okF (r : ByteArray × Int) : Value := .tuple #[.string r.1, .bool (decide (r.2 = 0))]
set_option maxHeartbeats 1600000 in
set_option maxRecDepth 100000 in
theorem doubled_any (s : ByteArray) (w : World) (hs : s.size ≤ 281474976710656) (hS : StdS w) :
    Calls Tryz.prog 46 #[.string s] w fun e w' => e = .returned (okF (doubleV s.data.toList)) ∧ Below w.heap.size w w' := by
  by_cases hd : numOk s.data.toList = true ∧ dec s.data.toList ≤ 2147483648
  · rw [double_yes hd]
    obtain ⟨h1, h2⟩ := double_parse hd
    have hu := hd.2
    have HP := Lib.hid (Any.strconv_ParseUint_10_at64_ok Tryz.laysPu14 s (by omega) _ h1 w)
    have HF := Lib.hid (fun (u : Nat) (hu : u < 18446744073709551616) (W : World) (h : StdS W) => fmtU_any u hu W h)
    have HS := Lib.hid hS
    have HE : Hid (mkB (Lib.decDigits (dec s.data.toList)) = s) := Lib.hid (by rw [h2, mkB_self])
    clear hd h1 h2 hS
    generalize dec s.data.toList = u at *
    have q1 : ¬ (2147483648 : Int) < u := by omega
    have q3 : decide ((2147483648 : Int) < u) = false := decide_eq_false q1
    have q2 : IntKind.u64.wrap (2 * (u : Int)) = ((2 * u : Nat) : Int) := by simp [IntKind.wrap, IntKind.bits, IntKind.signed]; omega
    obtain ⟨D, hD⟩ : ∃ D, D = 2 * u := ⟨_, rfl⟩
    rw [← hD] at q2 ⊢
    have hDl : D < 18446744073709551616 := by omega
    clear hD
    go_enter Tryz.func46, Tryz.ntmps46
    go_wp2_with (go_at_call 73; refine HP.out.mono ?_; rintro e w1 ⟨rfl, hw1⟩; refine Hid.out ?_)
    refine Lib.hid ?_
    have hb1 : Below w.heap.size w w1 := by
      rcases hw1 with rfl | rfl
      · exact Below.refl _ _
      · exact Lib.bytesWorld_below _ _ _
    have H1 := HS.out.below hb1
    have HB := Lib.hid hb1
    clear hw1 hb1
    go_wp2_with (first
      | (go_at_call 74; (with_reducible refine (HF.out u (by omega) _ H1).mono ?_); rintro e w2 ⟨rfl, hb2⟩; rw [HE.out]; have HB2 := Lib.hid hb2; have H2 := H1.below hb2; clear hb2; dsimp only)
      | (go_at_call 74; (with_reducible refine (HF.out D hDl _ H2).mono ?_); rintro e w3 ⟨rfl, hb3⟩; have HB3 := Lib.hid hb3; clear hb3; dsimp only))
    go_ret2
    exact ⟨rfl, HB.out.trans ((HB2.out.mono HB.out.size).trans (HB3.out.mono (Nat.le_trans HB.out.size HB2.out.size)))⟩
  · rw [double_no hd]
    rcases hp : Lib.parseUintB 64 s.data.toList with u | _ | _
    · have HP := Lib.hid (Any.strconv_ParseUint_10_at64_ok Tryz.laysPu14 s (by omega) _ hp w)
      have hu64 : u < 18446744073709551616 := by
        have := Lib.parseUintB_le hp
        have h64 : (2 : Nat) ^ 64 = 18446744073709551616 := by decide
        omega
      have HF := Lib.hid (fun (u : Nat) (hu : u < 18446744073709551616) (W : World) (h : StdS W) => fmtU_any u hu W h)
      have HS := Lib.hid hS
      by_cases hg : 2147483648 < u
      · have q1 : (2147483648 : Int) < u := by omega
        have q3 : decide ((2147483648 : Int) < u) = true := decide_eq_true q1
        clear hd hp hS
        go_enter Tryz.func46, Tryz.ntmps46
        go_wp2_with (go_at_call 73; refine HP.out.mono ?_; rintro e w1 ⟨rfl, hw1⟩; refine Hid.out ?_)
        refine Lib.hid ?_
        have hb1 : Below w.heap.size w w1 := by
          rcases hw1 with rfl | rfl
          · exact Below.refl _ _
          · exact Lib.bytesWorld_below _ _ _
        have HB := Lib.hid hb1
        clear hw1 hb1
        go_wp2
        go_ret2
        exact ⟨rfl, HB.out⟩
      · have hne : (mkB (Lib.decDigits u)).toList ≠ s.toList := fun e => hd (parse_double (u := u) (by omega) (by rw [Lib.toList_data, Lib.toList_data] at e; exact e))
        have q1 : ¬ (2147483648 : Int) < u := by omega
        have q3 : decide ((2147483648 : Int) < u) = false := decide_eq_false q1
        obtain ⟨X, hX⟩ : ∃ X, X = mkB (Lib.decDigits u) := ⟨_, rfl⟩
        have HX := Lib.hid hX
        have q4 : (X.toList == s.toList) = false := by rw [hX]; exact beq_eq_false_iff_ne.2 hne
        clear hd hp hS hX hne hg
        go_enter Tryz.func46, Tryz.ntmps46
        go_wp2_with (go_at_call 73; refine HP.out.mono ?_; rintro e w1 ⟨rfl, hw1⟩; refine Hid.out ?_)
        refine Lib.hid ?_
        have hb1 : Below w.heap.size w w1 := by
          rcases hw1 with rfl | rfl
          · exact Below.refl _ _
          · exact Lib.bytesWorld_below _ _ _
        have H1 := HS.out.below hb1
        have HB := Lib.hid hb1
        clear hw1 hb1
        go_wp2_with (go_at_call 74; (with_reducible refine (HF.out u hu64 _ H1).mono ?_); rintro e w2 ⟨rfl, hb2⟩; rw [← HX.out]; have HB2 := Lib.hid hb2; clear hb2; dsimp only)
        go_ret2
        exact ⟨rfl, HB.out.trans (HB2.out.mono HB.out.size)⟩
    · obtain ⟨te, pe, hv⟩ := hS.syn
      have HP := Lib.hid (Any.strconv_ParseUint_10_at64_syntax Tryz.laysPu14 s hs hp (.iface te pe) w hv (.inr ⟨te, pe, rfl⟩))
      clear hd hp hS hv
      go_enter Tryz.func46, Tryz.ntmps46
      go_wp2_with (go_at_call 73; refine HP.out.mono ?_; rintro e w1 ⟨M, rfl, -, -, hb1⟩; have HB := Lib.hid hb1; clear hb1)
      go_ret2
      exact ⟨rfl, HB.out⟩
    · obtain ⟨te, pe, hv⟩ := hS.rng
      have HP := Lib.hid (Any.strconv_ParseUint_10_at64_range Tryz.laysPu14 s hs hp (.iface te pe) w hv (.inr ⟨te, pe, rfl⟩))
      clear hd hp hS hv
      go_enter Tryz.func46, Tryz.ntmps46
      go_wp2_with (go_at_call 73; refine HP.out.mono ?_; rintro e w1 ⟨M, rfl, -, -, hb1⟩; have HB := Lib.hid hb1; clear hb1)
      go_ret2
      exact ⟨rfl, HB.out⟩
end Go.Proofs.YticcdighfojjjaaGreatDoor
