/-
  The walks of 'glyph.Quote' and of the document's own 'Quote'.
-/
import Derived.Test.YtbpbiakdigjcnaaDoorGlyphNames2
import Derived.Test.YtbpbiakdigjcnaaDoorBytes
import Derived.Deep.RegionLaw
namespace Go.Proofs.YtbpbiakdigjcnaaDoor
open Go.ChangeShapes Go.WideShapes Go.ChangeAt Go.RowKit

def hexes : List UInt8 := [48, 49, 50, 51, 52, 53, 54, 55, 56, 57, 97, 98, 99, 100, 101, 102]
def hexOf (n : Nat) : UInt8 := hexes.getD n 0
/-- How a byte is quoted. -/
def qb (c : UInt8) : List UInt8 :=
  if (c.toNat : Int) = 34 ∨ (c.toNat : Int) = 92 then [92, c] else if printB c.toNat = true then [c] else [92, 120, hexOf (c.toNat / 16), hexOf (c.toNat % 16)]
def qTo (l : List UInt8) (k : Nat) : List UInt8 := 34 :: (l.take k).flatMap qb
def quoteL (l : List UInt8) : List UInt8 := 34 :: l.flatMap qb ++ [34]

theorem qb_len (c : UInt8) : (qb c).length ≤ 4 := by unfold qb; repeat' split
                                                     all_goals simp
theorem flat_len (l : List UInt8) : (l.flatMap qb).length ≤ 4 * l.length := by
  induction l with
  | nil => simp
  | cons c r ih => have := qb_len c; simp only [List.flatMap_cons, List.length_append, List.length_cons]; omega
theorem qTo_len (l : List UInt8) (k : Nat) : (qTo l k).length ≤ 4 * k + 1 := by
  have := flat_len (l.take k)
  have h2 : (l.take k).length ≤ k := List.length_take_le _ _
  simp only [qTo, List.length_cons]; omega
theorem qTo_succ (s : ByteArray) (k : Nat) (h : k < s.size) : qTo s.data.toList k ++ qb s[k] = qTo s.data.toList (k + 1) := by
  unfold qTo
  rw [List.take_succ_eq_append_getElem (by simpa using h), List.flatMap_append]
  simp
  rfl
theorem qTo_all (l : List UInt8) (k : Nat) (h : l.length ≤ k) : qTo l k ++ [34] = quoteL l := by
  unfold qTo quoteL; rw [List.take_of_length_le h]
theorem qb_esc {c : UInt8} (h : (c.toNat : Int) = 34 ∨ (c.toNat : Int) = 92) : qb c = [92, c] := by rw [qb, if_pos h]
theorem qb_plain {c : UInt8} (h : ¬ ((c.toNat : Int) = 34 ∨ (c.toNat : Int) = 92)) (h2 : printB c.toNat = true) : qb c = [c] := by rw [qb, if_neg h, if_pos h2]
theorem qb_hex {c : UInt8} (h : ¬ ((c.toNat : Int) = 34 ∨ (c.toNat : Int) = 92)) (h2 : printB c.toNat = false) : qb c = [92, 120, hexOf (c.toNat / 16), hexOf (c.toNat % 16)] := by rw [qb, if_neg h, h2]; simp

theorem hex_at : ∀ n : Fin 16, (ByteArray.mk #[48, 49, 50, 51, 52, 53, 54, 55, 56, 57, 97, 98, 99, 100, 101, 102])[n.val]'(n.isLt) = hexOf n.val := by decide
theorem hex_int (x : Int) (n : Nat) (hx : x.toNat = n) (hn : n < 16) (h) : (ByteArray.mk #[48, 49, 50, 51, 52, 53, 54, 55, 56, 57, 97, 98, 99, 100, 101, 102])[x.toNat]'h = hexOf n := by
  subst hx; exact hex_at ⟨_, hn⟩
theorem hexcells (c : UInt8) (x y : Int) (hx : x.toNat = c.toNat / 16) (hy : y.toNat = c.toNat % 16) (h1 h2) :
    (#[.int .u8 92, .int .u8 120, .int .u8 (((ByteArray.mk #[48, 49, 50, 51, 52, 53, 54, 55, 56, 57, 97, 98, 99, 100, 101, 102])[x.toNat]'h1).toNat : Int), .int .u8 (((ByteArray.mk #[48, 49, 50, 51, 52, 53, 54, 55, 56, 57, 97, 98, 99, 100, 101, 102])[y.toNat]'h2).toNat : Int)] : Array Value)
      = ([92, 120, hexOf (c.toNat / 16), hexOf (c.toNat % 16)].map b8).toArray := by
  have := c.toNat_lt
  rw [hex_int x _ hx (by omega), hex_int y _ hy (by omega)]; rfl
theorem and15 {b : Int} (h0 : 0 ≤ b) (h1 : b ≤ 255) : bits .and .u8 b 15 = b % 16 := by
  have h := bits_mask .u8 8 (by decide) (fun m a b => by rw [IntKind.wrap_u8]; omega) 4 (by decide) b h0 (by omega)
  have e : ((2 : Int) ^ 4 - 1) = 15 := by decide
  have e2 : ((2 : Int) ^ 4) = 16 := by decide
  rw [e, e2] at h
  exact h

theorem Own8.step {w0 w : World} {v : Value} {s : ByteArray} {k : Nat} {news : List UInt8} (h : Own8 w0 w v (qTo s.data.toList k ++ news)) (hk : k < s.size) (e : qb s[k] = news) : Own8 w0 w v (qTo s.data.toList (k + 1)) := by
  rw [← qTo_succ s k hk, e]; exact h

set_option maxHeartbeats 800000 in
theorem quote_any (s : ByteArray) (w : World) (hs : s.size ≤ 4294967296) :
    Calls Tryd.prog 46 #[.string s] w fun e w' => e = .returned (str (quoteL s.data.toList)) ∧ Below w.heap.size w w' := by
  obtain ⟨i0, hi, hz0, hz1, hz2⟩ := info_parts info8
  have H0 := Lib.hid hi
  have H1 := Lib.hid hz0
  have H2 := Lib.hid hz1
  have H3 := Lib.hid hz2
  clear hi hz0 hz1 hz2
  go_enter Tryd.func46, Tryd.ntmps46
  go_wp2_with (first
    | (at_make; refine wpList_make_own _ rfl _ _ 32 rfl w.heap.size 5 i0 (.int .u8 0) 1 Tryd.underlying32 H0.out H1.out H2.out .i64 .i64 _ (s.size + 2) rfl rfl (by omega) (by rw [H3.out]; omega) (by unfold maxLen; omega) (Nat.le_refl _) ?_; intro w1 h1 h2; have ho := Own8.made (Below.refl _ _) h1 h2; clear h1 h2)
    | (at_builtin; refine append8 rfl _ _ rfl ho rfl [34] _ rfl rfl rfl rfl (by simp) ?_; intro v2 w2 ho2; clear ho))
  clear H0 H1 H2 H3
  go_loopw [3, 4] (fun v i wr => ∃ k : Nat, k ≤ s.size ∧ i = .int .i64 k ∧ Own8 w wr v (qTo s.data.toList k)) (fun _ i _ => s.size - (intOf i).toNat)
  case atStart => exact ⟨0, by omega, rfl, ho2⟩
  case round =>
    clear ho2
    obtain ⟨k, hk, rfl, ho⟩ := hrel
    have hql := qTo_len s.data.toList k
    by_cases hlt : k < s.size
    · have hby := byte_le s k hlt
      by_cases h34 : (s[k].toNat : Int) = 34
      · have d1 : ((s[k].toNat : Int) == 34) = true := beq_iff_eq.2 h34
        have HQ := Lib.hid (qb_esc (Or.inl h34))
        clear h34
        go_wp2_with (at_builtin; refine append8 rfl _ _ rfl ho rfl [92, s[k]] _ rfl rfl rfl rfl (by simp; omega) ?_; intro v2 w2 ho2)
        go_roundw
        case rel => exact ⟨k + 1, by omega, by go_num, ho2.step hlt HQ.out⟩
        case measure => simp [intOf]; omega
      have d1 : ((s[k].toNat : Int) == 34) = false := beq_eq_false_iff_ne.2 h34
      by_cases h92 : (s[k].toNat : Int) = 92
      · have d2 : ((s[k].toNat : Int) == 92) = true := beq_iff_eq.2 h92
        have HQ := Lib.hid (qb_esc (Or.inr h92))
        clear h92 h34
        go_wp2_with (at_builtin; refine append8 rfl _ _ rfl ho rfl [92, s[k]] _ rfl rfl rfl rfl (by simp; omega) ?_; intro v2 w2 ho2)
        go_roundw
        case rel => exact ⟨k + 1, by omega, by go_num, ho2.step hlt HQ.out⟩
        case measure => simp [intOf]; omega
      have d2 : ((s[k].toNat : Int) == 92) = false := beq_eq_false_iff_ne.2 h92
      by_cases hp : printB s[k].toNat = true
      · have HQ := Lib.hid (qb_plain (by omega) hp)
        clear h92 h34
        go_wp2_with (first
          | (go_at_call 60; refine (printed_any _ _).mono ?_; rintro e w' ⟨rfl, rfl⟩)
          | (at_builtin; refine append8 rfl _ _ rfl ho rfl [s[k]] _ rfl rfl rfl rfl (by simp; omega) ?_; intro v2 w2 ho2))
        go_roundw
        case rel => exact ⟨k + 1, by omega, by go_num, ho2.step hlt HQ.out⟩
        case measure => simp [intOf]; omega
      · have hp' : printB s[k].toNat = false := by simpa using hp
        have HQ := Lib.hid (qb_hex (by omega) hp')
        clear h92 h34 hp
        go_wp2_with (go_at_call 60; refine (printed_any _ _).mono ?_; rintro e w' ⟨rfl, rfl⟩)
        have ha := and15 (b := (s[k].toNat : Int)) (by omega) (by omega)
        have hx0 : 0 ≤ (s[k].toNat : Int) / 16 := by omega
        have hx1 : (s[k].toNat : Int) / 16 < 16 := by omega
        have hy0 : 0 ≤ (s[k].toNat : Int) % 16 := by omega
        have hy1 : (s[k].toNat : Int) % 16 < 16 := by omega
        go_region_law (refine step8 rfl _ _ rfl ((ho.alloc _).drew) rfl [92, 120, hexOf (s[k].toNat / 16), hexOf (s[k].toNat % 16)] rfl rfl (src_new' wr _ _ (hexcells _ _ _ (by omega) (by omega) _ _)) (by simp; omega) ?_; intro v2 w2 ho2)
        all_goals
          clear ha
          go_wp2
          go_roundw
          case rel => exact ⟨k + 1, by omega, by go_num, ho2.step hlt HQ.out⟩
          case measure => simp [intOf]; omega
    · have HL := Lib.hid (qTo_all s.data.toList k (by simp; omega))
      go_wp2_with (at_builtin; refine append8 rfl _ _ rfl ho rfl [34] _ rfl rfl rfl rfl (by simp; omega) ?_; intro v2 w2 ho2; rw [HL.out] at ho2; have hst := ho2.string 9 32 Tryd.underlying9 Tryd.underlying32 Tryd.underlying5)
      go_ret
      exact ⟨rfl, ho2.below⟩

set_option maxHeartbeats 800000 in
theorem refQuote_any (s : ByteArray) (w : World) (hs : s.size ≤ 4294967296) :
    Calls Tryd.prog 24 #[.string s] w fun e w' => e = .returned (str (quoteL s.data.toList)) ∧ Below w.heap.size w w' := by
  have h34' : Own8 w (w.alloc (.cells #[.int .u8 34] 5)) (.slice (some ⟨w.heap.size, 0, none⟩) 1 1) [34] :=
    ⟨World.ownsRow_lit w #[.int .u8 34] 1 (Nat.le_refl _) (by unfold maxLen; omega) rfl, (Below.refl _ _).alloc (Nat.le_refl _) _⟩
  go_enter Tryd.func24, Tryd.ntmps24
  go_wp2
  go_loopw [3, 4] (fun v i wr => ∃ k : Nat, k ≤ s.size ∧ i = .int .i64 k ∧ Own8 w wr v (qTo s.data.toList k)) (fun _ i _ => s.size - (intOf i).toNat)
  case atStart => exact ⟨0, by omega, rfl, h34'⟩
  case round =>
    clear h34'
    obtain ⟨k, hk, rfl, ho⟩ := hrel
    have hql := qTo_len s.data.toList k
    by_cases hlt : k < s.size
    · have hby := byte_le s k hlt
      by_cases h34 : (s[k].toNat : Int) = 34
      · have d1 : ((s[k].toNat : Int) == 34) = true := beq_iff_eq.2 h34
        have HQ := Lib.hid (qb_esc (Or.inl h34))
        clear h34
        go_wp2_with (at_builtin; refine append8 rfl _ _ rfl ho rfl [92, s[k]] _ rfl rfl rfl rfl (by simp; omega) ?_; intro v2 w2 ho2)
        go_roundw
        case rel => exact ⟨k + 1, by omega, by go_num, ho2.step hlt HQ.out⟩
        case measure => simp [intOf]; omega
      have d1 : ((s[k].toNat : Int) == 34) = false := beq_eq_false_iff_ne.2 h34
      by_cases h92 : (s[k].toNat : Int) = 92
      · have d2 : ((s[k].toNat : Int) == 92) = true := beq_iff_eq.2 h92
        have HQ := Lib.hid (qb_esc (Or.inr h92))
        clear h92 h34
        go_wp2_with (at_builtin; refine append8 rfl _ _ rfl ho rfl [92, s[k]] _ rfl rfl rfl rfl (by simp; omega) ?_; intro v2 w2 ho2)
        go_roundw
        case rel => exact ⟨k + 1, by omega, by go_num, ho2.step hlt HQ.out⟩
        case measure => simp [intOf]; omega
      have d2 : ((s[k].toNat : Int) == 92) = false := beq_eq_false_iff_ne.2 h92
      by_cases hp : 32 ≤ (s[k].toNat : Int) ∧ (s[k].toNat : Int) ≤ 126
      · have HQ := Lib.hid (qb_plain (c := s[k]) (by omega) (by simp only [printB]; exact decide_eq_true hp))
        obtain ⟨p1, p2⟩ := hp
        clear h92 h34
        go_wp2_with (at_builtin; refine append8 rfl _ _ rfl ho rfl [s[k]] _ rfl rfl rfl rfl (by simp; omega) ?_; intro v2 w2 ho2)
        go_roundw
        case rel => exact ⟨k + 1, by omega, by go_num, ho2.step hlt HQ.out⟩
        case measure => simp [intOf]; omega
      · have HQ := Lib.hid (qb_hex (c := s[k]) (by omega) (by simp only [printB]; exact decide_eq_false hp))
        have hor : (s[k].toNat : Int) < 32 ∨ 126 < (s[k].toNat : Int) := by omega
        clear h92 h34 hp
        have hx0 : 0 ≤ (s[k].toNat : Int) / 16 := by omega
        have hx1 : (s[k].toNat : Int) / 16 < 16 := by omega
        have hy0 : 0 ≤ (s[k].toNat : Int) % 16 := by omega
        have hy1 : (s[k].toNat : Int) % 16 < 16 := by omega
        have ha : (s[k].toNat : Int).tmod 16 = (s[k].toNat : Int) % 16 := Int.tmod_eq_emod_of_nonneg (by omega)
        have hd : IntKind.u8.wrap ((s[k].toNat : Int) / 16) = (s[k].toNat : Int) / 16 := IntWalk.u8_in _ (by omega)
        rcases hor with ho1 | ho1
        all_goals
          go_wp2
          go_region_law (refine step8 rfl _ _ rfl ((ho.alloc _).drew) rfl [92, 120, hexOf (s[k].toNat / 16), hexOf (s[k].toNat % 16)] rfl rfl (src_new' wr _ _ (hexcells _ _ _ (by omega) (by omega) _ _)) (by simp; omega) ?_; intro v2 w2 ho2)
          all_goals
            clear ha hd
            go_wp2
            go_roundw
            case rel => exact ⟨k + 1, by omega, by go_num, ho2.step hlt HQ.out⟩
            case measure => simp [intOf]; omega
    · have HL := Lib.hid (qTo_all s.data.toList k (by simp; omega))
      go_wp2_with (at_builtin; refine append8 rfl _ _ rfl ho rfl [34] _ rfl rfl rfl rfl (by simp; omega) ?_; intro v2 w2 ho2; rw [HL.out] at ho2; have hst := ho2.string 9 32 Tryd.underlying9 Tryd.underlying32 Tryd.underlying5)
      go_ret
      exact ⟨rfl, ho2.below⟩
end Go.Proofs.YtbpbiakdigjcnaaDoor
