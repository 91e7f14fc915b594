/-
  Plain facts of layer 2: what was quoted is read as it was, what is read is quoted as it stood; quoted texts can be printed; each name is a word; what was folded is folded.
-/
import Derived.Test.YtbpbiakdigjcnaaDoorGlyphUnquote4
import Derived.Test.YtbpbiakdigjcnaaDoorGlyphFold
namespace Go.Proofs.YtbpbiakdigjcnaaDoor
open Go.ChangeShapes Go.WideShapes Go.ChangeAt Go.RowKit

theorem all8 {p : UInt8 → Bool} (h : ∀ n : Fin 256, p (UInt8.ofNat n.val) = true) (c : UInt8) : p c = true := by
  have := h ⟨c.toNat, c.toNat_lt⟩
  simpa using this

theorem hexVal_hexOf : ∀ n : Fin 16, hexVal (hexOf n.val) = n.val := by decide +kernel
theorem hexOf_hexVal (c : UInt8) (h : 0 ≤ hexVal c) : hexOf (hexVal c).toNat = c := by
  have := all8 (p := fun c => decide (0 ≤ hexVal c → hexOf (hexVal c).toNat = c)) (by decide +kernel) c
  exact (of_decide_eq_true this) h

theorem bt_cons0 (a : UInt8) (r : List UInt8) : bt (a :: r) 0 = a := rfl
theorem bt_cons1 (a b : UInt8) (r : List UInt8) : bt (a :: b :: r) 1 = b := rfl
theorem u8nat {c : UInt8} {n : Nat} (h : (c.toNat : Int) = n) (hn : n < 256) : c = UInt8.ofNat n := by
  apply UInt8.toNat_inj.1; simp; omega

theorem nextB_esc {l : List UInt8} (h : ((bt l 0).toNat : Int) = 92) : nextB l = escB l := by rw [nextB, if_pos h]
theorem nextB_one {l : List UInt8} (h : ¬ ((bt l 0).toNat : Int) = 92) (h2 : ¬ (((bt l 0).toNat : Int) = 34 ∨ printB (bt l 0).toNat = false)) : nextB l = (bt l 0, 1) := by rw [nextB, if_neg h, if_neg h2]
theorem escB_two {l : List UInt8} (h : 2 ≤ l.length ∧ (((bt l 1).toNat : Int) = 34 ∨ ((bt l 1).toNat : Int) = 92)) : escB l = (bt l 1, 2) := by rw [escB, if_pos h]
theorem escB_num {l : List UInt8} (h : ¬ (2 ≤ l.length ∧ (((bt l 1).toNat : Int) = 34 ∨ ((bt l 1).toNat : Int) = 92))) (h2 : 4 ≤ l.length ∧ ((bt l 1).toNat : Int) = 120) : escB l = numB (bt l 2) (bt l 3) := by rw [escB, if_neg h, if_pos h2]
theorem n92 : (((92 : UInt8).toNat : Nat) : Int) = 92 := rfl
theorem n120 : (((120 : UInt8).toNat : Nat) : Int) = 120 := rfl
theorem next_qb (c : UInt8) (r : List UInt8) : nextB (qb c ++ r) = (c, (qb c).length) := by
  by_cases h : (c.toNat : Int) = 34 ∨ (c.toNat : Int) = 92
  · rw [qb_esc h]
    show nextB (92 :: c :: r) = (c, 2)
    rw [nextB_esc (l := 92 :: c :: r) n92, escB_two (l := 92 :: c :: r) ⟨by simp, h⟩]; rfl
  · rcases Bool.eq_false_or_eq_true (printB c.toNat) with hp | hp
    · rw [qb_plain h hp]
      show nextB (c :: r) = (c, 1)
      rw [nextB_one (l := c :: r) (by rw [bt_cons0]; omega) (by rw [bt_cons0, hp]; simp; omega)]; rfl
    · rw [qb_hex h hp]
      have hlt := c.toNat_lt
      have h1 := hexVal_hexOf ⟨c.toNat / 16, by omega⟩
      have h2 := hexVal_hexOf ⟨c.toNat % 16, by omega⟩
      simp only at h1 h2
      show nextB (92 :: 120 :: hexOf (c.toNat / 16) :: hexOf (c.toNat % 16) :: r) = (c, 4)
      rw [nextB_esc (l := 92 :: 120 :: hexOf (c.toNat / 16) :: hexOf (c.toNat % 16) :: r) n92,
        escB_num (l := 92 :: 120 :: hexOf (c.toNat / 16) :: hexOf (c.toNat % 16) :: r) (by rw [bt_cons1, n120]; omega) ⟨by simp, n120⟩]
      show numB (hexOf (c.toNat / 16)) (hexOf (c.toNat % 16)) = (c, 4)
      have e : 16 * ((c.toNat / 16 : Nat) : Int) + ((c.toNat % 16 : Nat) : Int) = (c.toNat : Int) := by omega
      rw [numB, h1, h2, if_neg (by omega), e, hp]
      simp
theorem qb_ne (c : UInt8) : 1 ≤ (qb c).length := by
  unfold qb
  repeat' split
  all_goals simp
theorem unq_flat (l : List UInt8) : ∀ n, (l.flatMap qb).length ≤ n → unqGo n (l.flatMap qb) = some l := by
  induction l with
  | nil => intro n _; exact unqGo_nil n
  | cons c r ih =>
    intro n hn
    have h1 := qb_ne c
    simp only [List.flatMap_cons, List.length_append] at hn ⊢
    obtain ⟨m, rfl⟩ : ∃ m, n = m + 1 := ⟨n - 1, by omega⟩
    have hx := next_qb c (r.flatMap qb)
    have hne : qb c ++ r.flatMap qb ≠ [] := by
      intro e
      have := congrArg List.length e
      simp at this
      rw [this.1] at h1
      simp at h1
    have h2 : (nextB (qb c ++ r.flatMap qb)).2 = (qb c).length := by rw [hx]
    have h3 : (nextB (qb c ++ r.flatMap qb)).1 = c := by rw [hx]
    rw [unqGo_step hne (by rw [h2]; omega), h2, h3, List.drop_left, ih m (by omega)]
    rfl
theorem inner_quote (l : List UInt8) : inner (quoteL l) = l.flatMap qb := by
  unfold inner quoteL
  simp
theorem unq_quote (l : List UInt8) : unqL (quoteL l) = some l := by
  have hok : okq (quoteL l) = true := by
    unfold okq
    have hl : (quoteL l).length = (l.flatMap qb).length + 2 := by simp [quoteL]
    rw [hl]
    refine decide_eq_true ⟨by omega, rfl, ?_⟩
    have : bt (quoteL l) ((l.flatMap qb).length + 2 - 1) = 34 := by
      unfold bt quoteL
      rw [show (l.flatMap qb).length + 2 - 1 = (l.flatMap qb).length + 1 from by omega]
      simp [List.getD]
    rw [this]; rfl
  rw [unqL_ok hok, inner_quote]
  exact unq_flat l _ (by simp [quoteL]; omega)

theorem next_take {r : List UInt8} {c : UInt8} {m : Nat} (hr : r ≠ []) (h : nextB r = (c, m)) (hm : ¬ m = 0) : r = qb c ++ r.drop m := by
  match r, hr with
  | a :: r, _ =>
    rw [nextB, bt_cons0] at h
    by_cases h92 : (a.toNat : Int) = 92
    · have ha : a = 92 := u8nat (n := 92) h92 (by decide)
      subst ha
      rw [if_pos (by decide), escB] at h
      by_cases h1 : 2 ≤ (92 :: r).length ∧ (((bt (92 :: r) 1).toNat : Int) = 34 ∨ ((bt (92 :: r) 1).toNat : Int) = 92)
      · rw [if_pos h1] at h
        obtain ⟨hl, hb⟩ := h1
        match r, hl with
        | b :: r, _ =>
          rw [bt_cons1] at h hb
          obtain ⟨rfl, rfl⟩ := Prod.mk.inj h
          rw [qb_esc hb]; rfl
      · rw [if_neg h1] at h
        by_cases h2 : 4 ≤ (92 :: r).length ∧ ((bt (92 :: r) 1).toNat : Int) = 120
        · rw [if_pos h2] at h
          obtain ⟨hl, hb⟩ := h2
          match r, hl with
          | b :: x :: y :: r, _ =>
            rw [bt_cons1] at hb
            have hbb : b = 120 := u8nat (n := 120) hb (by decide)
            subst hbb
            have h' : numB x y = (c, m) := h
            rw [numB] at h'
            obtain ⟨a0, a1⟩ := hexVal_le x
            obtain ⟨b0, b1⟩ := hexVal_le y
            by_cases hn : hexVal x < 0 ∨ hexVal y < 0
            · rw [if_pos hn] at h'; exact absurd (Prod.mk.inj h').2.symm hm
            · rw [if_neg hn] at h'
              rcases Bool.eq_false_or_eq_true (printB (16 * hexVal x + hexVal y)) with hp | hp
              · rw [if_pos hp] at h'; exact absurd (Prod.mk.inj h').2.symm hm
              · rw [hp] at h'
                obtain ⟨hc, rfl⟩ := Prod.mk.inj h'
                have hx := hexOf_hexVal x (by omega)
                have hy := hexOf_hexVal y (by omega)
                have hcn : (c.toNat : Int) = 16 * hexVal x + hexVal y := by rw [← hc]; simp; omega
                have hp' := printB_no hp
                rw [qb_hex (c := c) (by omega) (by rw [hcn]; exact hp)]
                rw [show c.toNat / 16 = (hexVal x).toNat from by omega, show c.toNat % 16 = (hexVal y).toNat from by omega, hx, hy]
                rfl
        · rw [if_neg h2] at h; exact absurd (Prod.mk.inj h).2.symm hm
    · rw [if_neg h92] at h
      by_cases h1 : (a.toNat : Int) = 34 ∨ printB a.toNat = false
      · rw [if_pos h1] at h; exact absurd (Prod.mk.inj h).2.symm hm
      · rw [if_neg h1] at h
        obtain ⟨rfl, rfl⟩ := Prod.mk.inj h
        rw [qb_plain (by omega) (by
          rcases Bool.eq_false_or_eq_true (printB a.toNat) with hp | hp
          · exact hp
          · exact absurd (Or.inr hp) h1)]
        rfl
theorem flat_unq : ∀ (n : Nat) (r v : List UInt8), unqGo n r = some v → v.flatMap qb = r
  | 0, r, v, h => by
    rw [unqGo] at h
    split at h
    · rename_i hr; rw [hr]; cases h; rfl
    · cases h
  | n + 1, r, v, h => by
    by_cases hr : r = []
    · subst hr; rw [unqGo_nil] at h; cases h; rfl
    · obtain ⟨c, m, hp⟩ : ∃ c m, nextB r = (c, m) := ⟨_, _, rfl⟩
      by_cases hm : m = 0
      · rw [unqGo_no hr (by rw [hp]; exact hm)] at h; cases h
      · rw [unqGo_step hr (by rw [hp]; exact hm), hp] at h
        obtain ⟨x, hx, rfl⟩ := Option.map_eq_some_iff.1 h
        have := flat_unq n _ x hx
        rw [List.flatMap_cons, this]
        exact (next_take hr hp hm).symm
theorem okq_form {l : List UInt8} (h : okq l = true) : l = 34 :: inner l ++ [34] := by
  obtain ⟨hl, h0, h1⟩ := of_decide_eq_true h
  match l, hl with
  | a :: b :: r, _ =>
    have ha : a = 34 := u8nat (n := 34) h0 (by decide)
    subst ha
    have hlast : bt (34 :: b :: r) ((34 :: b :: r).length - 1) = (b :: r).getLast (by simp) := by
      unfold bt
      rw [List.getLast_eq_getElem]
      simp [List.getD]
    rw [hlast] at h1
    have hb : (b :: r).getLast (by simp) = 34 := u8nat (n := 34) h1 (by decide)
    have hd := List.dropLast_concat_getLast (l := b :: r) (by simp)
    rw [hb] at hd
    have hi : inner (34 :: b :: r) = (b :: r).dropLast := by
      unfold inner
      rw [List.dropLast_eq_take]
      rfl
    rw [hi, List.cons_append, hd]
theorem quote_unq {t v : List UInt8} (h : unqL t = some v) : quoteL v = t := by
  rcases Bool.eq_false_or_eq_true (okq t) with hk | hk
  · rw [unqL_ok hk] at h
    have := flat_unq _ _ _ h
    rw [quoteL, this]
    exact (okq_form hk).symm
  · rw [unqL_not hk] at h; cases h
theorem flat_len2 (v : List UInt8) : v.length ≤ (v.flatMap qb).length := by
  induction v with
  | nil => simp
  | cons c r ih => have := qb_ne c; simp only [List.flatMap_cons, List.length_append, List.length_cons]; omega
theorem unq_len {t v : List UInt8} (h : unqL t = some v) : v.length ≤ t.length := by
  have := quote_unq h
  have h2 := flat_len2 v
  rw [← this]; simp only [quoteL, List.length_cons, List.length_append, List.cons_append]; omega
theorem quoteL_len (l : List UInt8) : (quoteL l).length ≤ 4 * l.length + 2 := by
  have := flat_len l
  simp only [quoteL, List.length_cons, List.length_append, List.cons_append, List.length_nil]; omega

theorem hexOf_print : ∀ n : Fin 16, printB (hexOf n.val).toNat = true := by decide +kernel
theorem qb_print (c d : UInt8) (h : d ∈ qb c) : printB d.toNat = true := by
  by_cases h1 : (c.toNat : Int) = 34 ∨ (c.toNat : Int) = 92
  · rw [qb_esc h1] at h
    rcases List.mem_cons.1 h with rfl | h
    · rfl
    · obtain rfl := List.mem_singleton.1 h
      exact printB_of (by omega)
  · rcases Bool.eq_false_or_eq_true (printB c.toNat) with hp | hp
    · rw [qb_plain h1 hp] at h
      obtain rfl := List.mem_singleton.1 h
      exact hp
    · rw [qb_hex h1 hp] at h
      have hlt := c.toNat_lt
      rcases List.mem_cons.1 h with rfl | h
      · rfl
      rcases List.mem_cons.1 h with rfl | h
      · rfl
      rcases List.mem_cons.1 h with rfl | h
      · exact hexOf_print ⟨c.toNat / 16, by omega⟩
      · obtain rfl := List.mem_singleton.1 h
        exact hexOf_print ⟨c.toNat % 16, by omega⟩
theorem quote_print (l : List UInt8) (d : UInt8) (h : d ∈ quoteL l) : 32 ≤ (d.toNat : Int) ∧ (d.toNat : Int) ≤ 126 := by
  unfold quoteL at h
  rcases List.mem_append.1 h with h | h
  · rcases List.mem_cons.1 h with rfl | h
    · decide
    · obtain ⟨c, _, hc⟩ := List.mem_flatMap.1 h
      exact printB_yes (qb_print c d hc)
  · obtain rfl := List.mem_singleton.1 h
    decide

theorem name_all : ∀ (l : List UInt8) (p : Nat) (g : Bool), nameGo p g l = true → allWord l = true ∧ (g = true → l ≠ [])
  | [], p, g, h => by
    refine ⟨rfl, fun hg => ?_⟩
    subst hg; simp [nameGo] at h
  | c :: r, p, g, h => by
    refine ⟨?_, fun _ => by simp⟩
    rw [allWord_cons]
    by_cases h1 : cls c.toNat = 1
    · rw [nameGo_small h1] at h
      rw [(name_all r p false h).1]; simp [inWordB, h1]
    · cases g with
      | true => rw [nameGo_begin h1] at h; cases h
      | false =>
        by_cases h2 : (c.toNat : Int) = 46
        · rw [nameGo_point h1 h2] at h
          rw [(name_all r _ _ h).1]; simp [inWordB, h2]
        · by_cases h3 : cls c.toNat = 3
          · rw [nameGo_digit h1 h2 h3] at h
            rw [(name_all r _ _ h).1]; simp [inWordB, h3]
          · rw [nameGo_no h1 h2 h3] at h; cases h
theorem name_word {l : List UInt8} (h : nameB l = true) : wordB l = true := by
  unfold nameB at h
  rw [Bool.and_eq_true] at h
  obtain ⟨hl, hn⟩ := h
  obtain ⟨ha, hne⟩ := name_all l 1 true hn
  have hl' := of_decide_eq_true hl
  have hz : 1 ≤ l.length := by
    cases l with
    | nil => exact absurd rfl (hne rfl)
    | cons _ _ => simp
  rw [wordB, ha, Bool.and_true]
  exact decide_eq_true ⟨hz, hl'⟩

theorem foldB_class (c : UInt8) : ¬ cls (foldB c).toNat = 2 ∧ (cls c.toNat = 2 → cls (foldB c).toNat = 1) := by
  have := all8 (p := fun c => decide (¬ cls (foldB c).toNat = 2 ∧ (cls c.toNat = 2 → cls (foldB c).toNat = 1))) (by decide +kernel) c
  exact of_decide_eq_true this
theorem foldB_twice (c : UInt8) : foldB (foldB c) = foldB c := foldB_other (foldB_class c).1
theorem foldL_twice (l : List UInt8) : foldL (foldL l) = foldL l := by
  simp only [foldL, List.map_map]
  apply List.map_congr_left
  intro c _
  exact foldB_twice c
theorem foldL_length (l : List UInt8) : (foldL l).length = l.length := by simp [foldL]
end Go.Proofs.YtbpbiakdigjcnaaDoor
