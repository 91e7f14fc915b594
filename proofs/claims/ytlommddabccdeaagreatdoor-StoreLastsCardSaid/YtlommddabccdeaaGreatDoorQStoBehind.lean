/-
  StoBehind.
-/
import Derived.Test.YtlommddabccdeaaGreatDoorQStoWords
import Derived.Lib.SliceRun
import Derived.Test.YtlommddabccdeaaGreatDoorQUpd
namespace Go.Proofs.YtlommddabccdeaaGreatDoor
open Go.ChangeShapes Go.WideShapes Go.ChangeAt Go.RowKit

def posB (l : List PairV) (t k : ByteArray) : Nat := (l.takeWhile fun q => aheadP q t k).length
def behindL (l : List PairV) (t k : ByteArray) (v : Option ByteArray) : List PairV :=
 l.take (posB l t k) ++ ((v.map fun x => (⟨t, k, x⟩ : PairV)).toList ++ l.drop (posB l t k + (if (l.drop (posB l t k)).head?.any (isP t k) then 1 else 0)))
theorem posB_is {l : List PairV} {t k : ByteArray} {s : Nat} (hs : s ≤ l.length) (h1 : ∀ j (hj : j < l.length), j < s → aheadP l[j] t k = true) (h2 : ∀ h : s < l.length, aheadP l[s] t k = false) : posB l t k = s := by
 unfold posB
 induction l generalizing s with
 | nil => simp at hs; simp [hs]
 | cons q r ih =>
  cases s with
  | zero =>
   have := h2 (by simp)
   rw [List.getElem_cons_zero] at this
   simp [this]
  | succ s =>
   have h0 := h1 0 (by simp) (by omega)
   rw [List.getElem_cons_zero] at h0
   rw [List.takeWhile_cons, if_pos h0, List.length_cons, ih (s := s) (by simpa using hs) (fun j hj hj2 => by have := h1 (j + 1) (by simp; omega) (by omega); simpa using this) (fun h => by have := h2 (by simp; omega); simpa using this)]
theorem run_append_zeroP (w : World) (x : Option Addr) (n c : Nat) (hc : n ≤ c) (y : Option Addr) (d : Nat) (ty : TypeId) :
  (Builtin.append_ #[35, 35] ty #[.slice x n c, .slice y 0 d]).run Tryz.prog w = .ok (.slice x n c) w := by
 obtain ⟨i0, hi, hz0, hz1, hz2⟩ := info_parts infoPr
 cases x with
 | none =>
  cases y with
  | none => simp [Builtin.append_, run_underlying Tryz.underlying35, Builtin.lenOf, Builtin.firstCells, sizeOf, typeInfo, hi, hc]
  | some a =>
   have h0 := run_loadCells_list (P := Tryz.prog) w a [] (fun j v h => by simp at h)
   simp at h0
   simp [Builtin.append_, run_underlying Tryz.underlying35, Builtin.lenOf, Builtin.firstCells, sizeOf, typeInfo, hi, hc, h0]
 | some b =>
  cases y with
  | none => simp [Builtin.append_, run_underlying Tryz.underlying35, Builtin.lenOf, Builtin.firstCells, sizeOf, typeInfo, hi, hc, storeCells]
  | some a =>
   have h0 := run_loadCells_list (P := Tryz.prog) w a [] (fun j v h => by simp at h)
   simp at h0
   simp [Builtin.append_, run_underlying Tryz.underlying35, Builtin.lenOf, Builtin.firstCells, sizeOf, typeInfo, hi, hc, h0, storeCells]
theorem append_list {w0 w : World} {v : Value} {ps qs : List PairV} (hown : OwnP w0 w v ps) (hn : ps.length ≤ 10000000000) {x : Option Addr} {m c : Nat} (hm : qs.length = m) (hm2 : m ≤ 10000000000) (hq : PrsAt w x qs) (ty : TypeId) :
  ∃ v' w', (Builtin.append_ #[35, 35] ty #[v, .slice x m c]).run Tryz.prog w = .ok v' w' ∧ OwnP w0 w' v' (ps ++ qs) := by
 subst hm
 have hz := hown.below.size
 by_cases hm0 : qs.length = 0
 ·have hq0 : qs = [] := List.eq_nil_of_length_eq_zero hm0
  subst hq0
  rw [List.append_nil]
  rcases hown.own.2 with ⟨rfl, _⟩ | ⟨g, cap, cur, rfl, _, _, h4, _⟩
  ·exact ⟨_, w, run_append_zeroP w none 0 0 (Nat.le_refl _) x c ty, hown⟩
  ·exact ⟨_, w, run_append_zeroP w _ ps.length cap h4 x c ty, hown⟩
 ·obtain ⟨b, off, e, _⟩ := hq 0 (by omega)
  subst e
  obtain ⟨i0, hi, hz0, hz1, hz2⟩ := info_parts infoPr
  obtain ⟨v', w1, hr, h1, h2, _⟩ := run_append_own (P := Tryz.prog) w w0.heap.size 35 ty 42 i0 _ 3 48 Tryz.underlying35 hi hz0 hz1 hz2 rfl (by decide) v ps.length (pFlat ps) hown.own ⟨b, off, none⟩ qs.length c (pFlat qs) (pFlat_len qs) (fun j u hj => by rw [addr_at]; exact hq.cells j u hj) (pFlat_one qs) (by unfold maxLen; omega) (by omega) hz
  refine ⟨v', w1, hr, ⟨?_, hown.below.grown h2 hz (fun k hk => (hown.own.lt k hk).1)⟩⟩
  rw [List.length_append, pFlat_append]
  exact h1
theorem wpList_append_list {ops : Array Oper} {rest : List Oper} {o : Oper} {a : Act} {Q : Exit → Act → World → Prop} (hgd : o.guard = none) (s x : Operand)
  (ho : o.op = .call { callee := .builtin .append, args := #[s, x], argTypes := #[35, 35] }) {w0 w : World} {v : Value} {ps qs : List PairV} (hown : OwnP w0 w v ps) (hn : ps.length ≤ 10000000000) (hs : a.eval s = v) {y : Option Addr} {m c : Nat} (hx : a.eval x = .slice y m c) (hm : qs.length = m) (hm2 : m ≤ 10000000000) (hq : PrsAt w y qs)
  (h : ∀ v' w', OwnP w0 w' v' (ps ++ qs) → wpList Tryz.prog ops Q rest (a.put o.dst v') w') : wpList Tryz.prog ops Q (o :: rest) a w := by
 obtain ⟨v', w', hr, hw⟩ := append_list (c := c) hown hn hm hm2 hq o.type
 exact wpList_append_eq hgd s x _ _ ho v _ v' hs hx hr (h v' w' hw)
theorem slice_first {w : World} {x : Option Addr} {ps : List PairV} {n c i : Nat} (h : PrsAt w x ps) (hi : i ≤ n) (hc : n ≤ c) : (∀ W : World, (Instr.slice 35 (.slice x n c) none (some (.int .i64 (i : Int))) none).run Tryz.prog W = .ok (.slice x i c) W) ∧ PrsAt w x (ps.take i) := by
 refine ⟨fun W => ?_, h.take i⟩
 rw [run_slice_h W _ _ _ _ elemPr .i64 (i : Int) (by omega) (by omega)]
 rw [sizePr]
 show Result.ok (sliced _ _ _ _ _) W = _
 unfold sliced
 rw [Int.toNat_natCast, Nat.zero_mul]
 have e : x.map (·.add 0) = x := by
  cases x with
  | none => rfl
  | some a => simp [Addr.add]
 rw [e]
 simp
theorem OwnP.shape' {w0 w : World} {v : Value} {ps : List PairV} (h : OwnP w0 w v ps) : ∃ x n c, v = .slice x n c := by
 obtain ⟨x, c, e, _⟩ := h.prs
 exact ⟨x, _, c, e⟩
set_option maxHeartbeats 6400000 in
theorem behind_any (ps : List PairV) (y : Option Addr) (n c : Nat) (x : TurnV) (w : World) (h : PrsAt w y ps) (hn : ps.length = n) (hc : n ≤ c) (hl : n ≤ 2147483647) (ht : -9223372036854775808 ≤ x.t) (ht2 : x.t ≤ 9223372036854775807) (hk : -9223372036854775808 ≤ x.k) (hk2 : x.k ≤ 9223372036854775807) :
  Calls Tryz.prog 13 #[.slice y n c, tuV x] w fun e w' => ∃ v, e = .returned v ∧ OwnP w w' v (behindL ps (tabOf x) (keyOf x) (if x.gone then none else some x.v)) := by
 have HWD := Lib.hid fun W => words_any x W ht ht2 hk hk2
 have HN := Lib.hid hn
 have HX := Lib.hid h
 have HLS := Lib.hid fun p W => sless_any p (tabOf x) (keyOf x) W
 clear h ht ht2 hk hk2 hn
 obtain ⟨tt, tk, tv, tg, te⟩ := x
 obtain ⟨TT, hTT⟩ : ∃ TT, tabOf ⟨tt, tk, tv, tg, te⟩ = TT := ⟨_, rfl⟩
 obtain ⟨KK, hKK⟩ : ∃ KK, keyOf ⟨tt, tk, tv, tg, te⟩ = KK := ⟨_, rfl⟩
 rw [hTT, hKK] at HWD HLS ⊢
 clear hTT hKK
 unfold tuV at HWD ⊢
 simp only at HWD ⊢
 go_enter Tryz.func13, Tryz.ntmps13
 go_wp2_with (go_at_call 10; (with_reducible refine (HWD.out _).mono ?_); rintro e w2 ⟨rfl, hb2⟩; have HB2 := Lib.hid hb2; clear hb2)
 have hb1 := heap_alloc_new w (.cells #[.int .i64 tt, .int .i64 tk, .string tv, .bool tg, .bool te] 26)
 have HB1 : Hid (Below w.heap.size w w2 ∧ w2.cell? ⟨w.heap.size, 2, none⟩ = some (.string tv) ∧ w2.cell? ⟨w.heap.size, 3, none⟩ = some (.bool tg) ∧ w.heap.size < w2.heap.size) := Lib.hid (by
  have h0 : Below w.heap.size w (w.alloc (.cells #[.int .i64 tt, .int .i64 tk, .string tv, .bool tg, .bool te] 26)) := (Below.refl _ w).alloc (Nat.le_refl _) _
  have hlt := lt_of_heap hb1
  have hb3 := (HB2.out.block _ hlt).trans hb1
  exact ⟨h0.trans (HB2.out.mono h0.size), cell_at hb3 (k := 2) rfl, cell_at hb3 (k := 3) rfl, lt_of_heap hb3⟩)
 clear HB2 hb1
 obtain ⟨X, hX⟩ : ∃ X, w.heap.size = X := ⟨_, rfl⟩
 have HBC : Hid (w2.cell? ⟨X, 2, none⟩ = some (.string tv) ∧ w2.cell? ⟨X, 3, none⟩ = some (.bool tg)) := Lib.hid (by rw [← hX]; exact ⟨HB1.out.2.1, HB1.out.2.2.1⟩)
 rw [hX]
 clear hX
 go_loopw [7] (fun i wr => ∃ s : Nat, i = .int .i64 s ∧ s ≤ n ∧ Hid (Below w2.heap.size w2 wr ∧ ∀ j (hj : j < ps.length), j < s → aheadP ps[j] TT KK = true)) (fun i _ => n - (intOf i).toNat)
 case atStart => exact ⟨0, rfl, by omega, Lib.hid ⟨Below.refl _ _, fun j _ hj => by omega⟩⟩
 case round =>
  obtain ⟨s, rfl, hs, HO⟩ := hrel
  have HOB : Hid (Below w.heap.size w wr) := Lib.hid (HB1.out.1.trans (HO.out.1.mono HB1.out.1.size))
  by_cases hlt : s < n
  ·have hsx : s < ps.length := by rw [HN.out]; exact hlt
   obtain ⟨b, off, hy, hbl, c0, c1, c2⟩ := (HX.out.below HOB.out) s hsx
   have q1 : (0 : Int) ≤ s := by omega
   have q2 : (s : Int) < n := by omega
   have HPS : Hid (∀ B, aheadP ps[s] TT KK = B → (B = true → ∀ j (hj : j < ps.length), j < s + 1 → aheadP ps[j] TT KK = true) ∧ (B = false → posB ps TT KK = s)) := Lib.hid fun B hB => ⟨fun hb j hj hj2 => by
     rcases Nat.lt_or_ge j s with h1 | h1
     ·exact HO.out.2 j hj h1
     ·obtain rfl : j = s := by omega
      rw [hB, hb], fun hb => posB_is (Nat.le_of_lt hsx) HO.out.2 (fun _ => by rw [hB, hb])⟩
   have HLC := Lib.hid (HLS.out ps[s] wr)
   have HIS : Hid ((ps.drop s).head?.any (isP TT KK) = isP TT KK ps[s]) := Lib.hid (by rw [List.head?_drop, List.getElem?_eq_getElem hsx]; rfl)
   generalize ps[s] = q at c0 c1 c2 HPS HLC HIS
   obtain ⟨qt, qk, qv⟩ := q
   unfold pV at HLC
   dsimp only at c0 c1 c2 HLC
   obtain ⟨B, hB⟩ : ∃ B, aheadP ⟨qt, qk, qv⟩ TT KK = B := ⟨_, rfl⟩
   rw [hB] at HLC
   have HPS2 := Lib.hid (HPS.out B hB)
   clear hB HPS hsx
   subst hy
   cases B with
   | true =>
    have HPS3 := Lib.hid (HPS2.out.1 rfl)
    clear HPS2
    go_wp2_with (go_at_call 27; (with_reducible refine HLC.out.mono ?_); rintro e w3 ⟨rfl, hb3⟩; have HB3 := Lib.hid hb3; clear hb3)
    go_roundw
    case rel => exact ⟨s + 1, by go_num, by omega, Lib.hid ⟨HO.out.1.trans (HB3.out.mono HO.out.1.size), HPS3.out⟩⟩
    case measure => simp [intOf]; omega
   | false =>
    have HPS3 : Hid (posB ps TT KK = s) := Lib.hid (HPS2.out.2 rfl)
    clear HPS2
    cases h5 : isP TT KK ⟨qt, qk, qv⟩ with
    | true =>
     rw [h5] at HIS
     have hkk : ((qt.toList == TT.toList) = true) ∧ ((qk.toList == KK.toList) = true) := by unfold isP eqB at h5; simpa using h5
     obtain ⟨k5, k6⟩ := hkk
     clear h5
     cases tg with
     | true =>
      obtain ⟨S1, hS1⟩ : ∃ S1, s + 1 = S1 := ⟨_, rfl⟩
      have HS1 := Lib.hid hS1
      obtain ⟨hs1, hp1⟩ := slice_first (i := s) (HX.out.below HOB.out) (by omega) hc
      obtain ⟨y9, c9, hs2, hp2, hc9⟩ := slice_rest (i := S1) (HX.out.below HOB.out) HN.out (by omega) hc
      have HP1 := Lib.hid hp1
      have HP2 := Lib.hid hp2
      have HL1 : Hid ((ps.take s).length = s) := Lib.hid (by rw [List.length_take, HN.out]; omega)
      have HL2 : Hid ((ps.drop (S1)).length = n - (S1)) := Lib.hid (by rw [List.length_drop, HN.out])
      have hwi : IntKind.i64.wrap ((s : Int) + 1) = (S1 : Int) := by rw [IntWalk.i64_in _ (by omega)]; omega
      clear hS1
      have g2 := (HO.out.1.cell (p := ⟨X, 2, none⟩) (World.block_lt_of_cell? _ _ HBC.out.1)).trans HBC.out.1
      have g3 := (HO.out.1.cell (p := ⟨X, 3, none⟩) (World.block_lt_of_cell? _ _ HBC.out.2)).trans HBC.out.2
      clear hp1 hp2
      go_wp2_with (first
       | (go_at_call 27; (with_reducible refine HLC.out.mono ?_); rintro e w3 ⟨rfl, hb3⟩; have c0' := (hb3.cell (lt_of_cell c0)).trans c0; have c1' := (hb3.cell (lt_of_cell c1)).trans c1; have HB3 := Lib.hid hb3; have k2 := (hb3.cell (lt_of_cell g2)).trans g2; have k3 := (hb3.cell (lt_of_cell g3)).trans g3; clear hb3)
       | (at_builtin; refine wpList_append_list rfl _ _ rfl (OwnP.nil_ _) (by simp) rfl rfl HL1.out (by omega) (HP1.out.below HB3.out) ?_; intro v4 w4 ho4; have HO4 := Lib.hid ho4; have k2 := (HO4.out.below.cell (lt_of_cell k2)).trans k2; have k3 := (HO4.out.below.cell (lt_of_cell k3)).trans k3; have e0 := (HO4.out.below.cell (lt_of_cell c0')).trans c0'; have e1 := (HO4.out.below.cell (lt_of_cell c1')).trans c1'; clear ho4; obtain ⟨x4, n4, c4, hv4⟩ := HO4.out.shape'; have HV4 := Lib.hid hv4; subst hv4)
       | (at_builtin; refine wpList_append_list rfl _ _ rfl HO4.out (by rw [List.nil_append, HL1.out]; omega) rfl rfl HL2.out (by omega) (HP2.out.below (HB3.out.trans (HO4.out.below.mono HB3.out.size))) ?_; intro v6 w6 ho6; have HO6 := Lib.hid ho6; clear ho6))
      go_ret
      refine ⟨v6, rfl, ?_⟩
      have HW3 : Below w.heap.size w w3 := HOB.out.trans (HB3.out.mono HOB.out.size)
      have hfin := HO6.out.lift HW3
      have e : behindL ps TT KK none = ps.take s ++ ([] ++ ps.drop (s + 1)) := by unfold behindL; rw [HPS3.out, HIS.out]; rfl
      rw [← HS1.out] at hfin
      have hgoal : OwnP w w6 v6 (behindL ps TT KK none) := by rw [e]; simpa using hfin
      exact hgoal
     | false =>
      obtain ⟨S1, hS1⟩ : ∃ S1, s + 1 = S1 := ⟨_, rfl⟩
      have HS1 := Lib.hid hS1
      obtain ⟨hs1, hp1⟩ := slice_first (i := s) (HX.out.below HOB.out) (by omega) hc
      obtain ⟨y9, c9, hs2, hp2, hc9⟩ := slice_rest (i := S1) (HX.out.below HOB.out) HN.out (by omega) hc
      have HP1 := Lib.hid hp1
      have HP2 := Lib.hid hp2
      have HL1 : Hid ((ps.take s).length = s) := Lib.hid (by rw [List.length_take, HN.out]; omega)
      have HL2 : Hid ((ps.drop (S1)).length = n - (S1)) := Lib.hid (by rw [List.length_drop, HN.out])
      have hwi : IntKind.i64.wrap ((s : Int) + 1) = (S1 : Int) := by rw [IntWalk.i64_in _ (by omega)]; omega
      clear hS1
      have g2 := (HO.out.1.cell (p := ⟨X, 2, none⟩) (World.block_lt_of_cell? _ _ HBC.out.1)).trans HBC.out.1
      have g3 := (HO.out.1.cell (p := ⟨X, 3, none⟩) (World.block_lt_of_cell? _ _ HBC.out.2)).trans HBC.out.2
      clear hp1 hp2
      obtain ⟨N5, hN5⟩ : ∃ N5, (([] : List PairV) ++ ps.take s).length + 1 = N5 := ⟨_, rfl⟩
      have HN5 := Lib.hid hN5
      clear hN5
      go_wp2_with (first
       | (go_at_call 27; (with_reducible refine HLC.out.mono ?_); rintro e w3 ⟨rfl, hb3⟩; have c0' := (hb3.cell (lt_of_cell c0)).trans c0; have c1' := (hb3.cell (lt_of_cell c1)).trans c1; have HB3 := Lib.hid hb3; have k2 := (hb3.cell (lt_of_cell g2)).trans g2; have k3 := (hb3.cell (lt_of_cell g3)).trans g3; clear hb3)
       | (at_builtin; refine wpList_append_list rfl _ _ rfl (OwnP.nil_ _) (by simp) rfl rfl HL1.out (by omega) (HP1.out.below HB3.out) ?_; intro v4 w4 ho4; have HO4 := Lib.hid ho4; have k2 := (HO4.out.below.cell (lt_of_cell k2)).trans k2; have k3 := (HO4.out.below.cell (lt_of_cell k3)).trans k3; have e0 := (HO4.out.below.cell (lt_of_cell c0')).trans c0'; have e1 := (HO4.out.below.cell (lt_of_cell c1')).trans c1'; clear ho4; obtain ⟨x4, n4, c4, hv4⟩ := HO4.out.shape'; have HV4 := Lib.hid hv4; subst hv4)
       | (at_builtin; refine appendP rfl _ _ rfl HO4.out (by rw [List.nil_append, HL1.out]; omega) rfl rfl rfl ?_; intro y5 cap5 w5 ho5 hg5; rw [HN5.out] at ho5 ⊢; have HO5 := Lib.hid ho5; have e0' := (HO5.out.below.cell (lt_of_cell c0')).trans c0'; have e1' := (HO5.out.below.cell (lt_of_cell c1')).trans c1'; clear ho5 hg5)
       | (at_builtin; refine wpList_append_list rfl _ _ rfl HO5.out (by rw [List.length_append, List.nil_append, HL1.out, List.length_singleton]; omega) rfl rfl HL2.out (by omega) (HP2.out.below (HB3.out.trans (HO5.out.below.mono HB3.out.size))) ?_; intro v6 w6 ho6; have HO6 := Lib.hid ho6; clear ho6))
      go_ret
      refine ⟨v6, rfl, ?_⟩
      have HW3 : Below w.heap.size w w3 := HOB.out.trans (HB3.out.mono HOB.out.size)
      have hfin := HO6.out.lift HW3
      have e : behindL ps TT KK (some tv) = ps.take s ++ ([⟨TT, KK, tv⟩] ++ ps.drop (s + 1)) := by unfold behindL; rw [HPS3.out, HIS.out]; rfl
      rw [← HS1.out] at hfin
      have hgoal : OwnP w w6 v6 (behindL ps TT KK (some tv)) := by rw [e]; simpa using hfin
      exact hgoal
    | false =>
     rw [h5] at HIS
     have hkk : (qt.toList == TT.toList) = false ∨ ((qt.toList == TT.toList) = true ∧ (qk.toList == KK.toList) = false) := by
      unfold isP eqB at h5
      cases h6 : (qt.toList == TT.toList) with
      | false => exact Or.inl rfl
      | true => rw [h6] at h5; exact Or.inr ⟨rfl, by simpa using h5⟩
     clear h5
     rcases hkk with k5 | ⟨k5, k6⟩
     ·cases tg with
      | true =>
       obtain ⟨hs1, hp1⟩ := slice_first (i := s) (HX.out.below HOB.out) (by omega) hc
       obtain ⟨y9, c9, hs2, hp2, hc9⟩ := slice_rest (i := s) (HX.out.below HOB.out) HN.out (by omega) hc
       have HP1 := Lib.hid hp1
       have HP2 := Lib.hid hp2
       have HL1 : Hid ((ps.take s).length = s) := Lib.hid (by rw [List.length_take, HN.out]; omega)
       have HL2 : Hid ((ps.drop (s)).length = n - (s)) := Lib.hid (by rw [List.length_drop, HN.out])
       have g2 := (HO.out.1.cell (p := ⟨X, 2, none⟩) (World.block_lt_of_cell? _ _ HBC.out.1)).trans HBC.out.1
       have g3 := (HO.out.1.cell (p := ⟨X, 3, none⟩) (World.block_lt_of_cell? _ _ HBC.out.2)).trans HBC.out.2
       clear hp1 hp2
       go_wp2_with (first
        | (go_at_call 27; (with_reducible refine HLC.out.mono ?_); rintro e w3 ⟨rfl, hb3⟩; have c0' := (hb3.cell (lt_of_cell c0)).trans c0; have c1' := (hb3.cell (lt_of_cell c1)).trans c1; have HB3 := Lib.hid hb3; have k2 := (hb3.cell (lt_of_cell g2)).trans g2; have k3 := (hb3.cell (lt_of_cell g3)).trans g3; clear hb3)
        | (at_builtin; refine wpList_append_list rfl _ _ rfl (OwnP.nil_ _) (by simp) rfl rfl HL1.out (by omega) (HP1.out.below HB3.out) ?_; intro v4 w4 ho4; have HO4 := Lib.hid ho4; have k2 := (HO4.out.below.cell (lt_of_cell k2)).trans k2; have k3 := (HO4.out.below.cell (lt_of_cell k3)).trans k3; have e0 := (HO4.out.below.cell (lt_of_cell c0')).trans c0'; have e1 := (HO4.out.below.cell (lt_of_cell c1')).trans c1'; clear ho4; obtain ⟨x4, n4, c4, hv4⟩ := HO4.out.shape'; have HV4 := Lib.hid hv4; subst hv4)
        | (at_builtin; refine wpList_append_list rfl _ _ rfl HO4.out (by rw [List.nil_append, HL1.out]; omega) rfl rfl HL2.out (by omega) (HP2.out.below (HB3.out.trans (HO4.out.below.mono HB3.out.size))) ?_; intro v6 w6 ho6; have HO6 := Lib.hid ho6; clear ho6))
       go_ret
       refine ⟨v6, rfl, ?_⟩
       have HW3 : Below w.heap.size w w3 := HOB.out.trans (HB3.out.mono HOB.out.size)
       have hfin := HO6.out.lift HW3
       have e : behindL ps TT KK none = ps.take s ++ ([] ++ ps.drop (s + 0)) := by unfold behindL; rw [HPS3.out, HIS.out]; rfl
       have hgoal : OwnP w w6 v6 (behindL ps TT KK none) := by rw [e]; simpa using hfin
       exact hgoal
      | false =>
       obtain ⟨hs1, hp1⟩ := slice_first (i := s) (HX.out.below HOB.out) (by omega) hc
       obtain ⟨y9, c9, hs2, hp2, hc9⟩ := slice_rest (i := s) (HX.out.below HOB.out) HN.out (by omega) hc
       have HP1 := Lib.hid hp1
       have HP2 := Lib.hid hp2
       have HL1 : Hid ((ps.take s).length = s) := Lib.hid (by rw [List.length_take, HN.out]; omega)
       have HL2 : Hid ((ps.drop (s)).length = n - (s)) := Lib.hid (by rw [List.length_drop, HN.out])
       have g2 := (HO.out.1.cell (p := ⟨X, 2, none⟩) (World.block_lt_of_cell? _ _ HBC.out.1)).trans HBC.out.1
       have g3 := (HO.out.1.cell (p := ⟨X, 3, none⟩) (World.block_lt_of_cell? _ _ HBC.out.2)).trans HBC.out.2
       clear hp1 hp2
       obtain ⟨N5, hN5⟩ : ∃ N5, (([] : List PairV) ++ ps.take s).length + 1 = N5 := ⟨_, rfl⟩
       have HN5 := Lib.hid hN5
       clear hN5
       go_wp2_with (first
        | (go_at_call 27; (with_reducible refine HLC.out.mono ?_); rintro e w3 ⟨rfl, hb3⟩; have c0' := (hb3.cell (lt_of_cell c0)).trans c0; have c1' := (hb3.cell (lt_of_cell c1)).trans c1; have HB3 := Lib.hid hb3; have k2 := (hb3.cell (lt_of_cell g2)).trans g2; have k3 := (hb3.cell (lt_of_cell g3)).trans g3; clear hb3)
        | (at_builtin; refine wpList_append_list rfl _ _ rfl (OwnP.nil_ _) (by simp) rfl rfl HL1.out (by omega) (HP1.out.below HB3.out) ?_; intro v4 w4 ho4; have HO4 := Lib.hid ho4; have k2 := (HO4.out.below.cell (lt_of_cell k2)).trans k2; have k3 := (HO4.out.below.cell (lt_of_cell k3)).trans k3; have e0 := (HO4.out.below.cell (lt_of_cell c0')).trans c0'; have e1 := (HO4.out.below.cell (lt_of_cell c1')).trans c1'; clear ho4; obtain ⟨x4, n4, c4, hv4⟩ := HO4.out.shape'; have HV4 := Lib.hid hv4; subst hv4)
        | (at_builtin; refine appendP rfl _ _ rfl HO4.out (by rw [List.nil_append, HL1.out]; omega) rfl rfl rfl ?_; intro y5 cap5 w5 ho5 hg5; rw [HN5.out] at ho5 ⊢; have HO5 := Lib.hid ho5; have e0' := (HO5.out.below.cell (lt_of_cell c0')).trans c0'; have e1' := (HO5.out.below.cell (lt_of_cell c1')).trans c1'; clear ho5 hg5)
        | (at_builtin; refine wpList_append_list rfl _ _ rfl HO5.out (by rw [List.length_append, List.nil_append, HL1.out, List.length_singleton]; omega) rfl rfl HL2.out (by omega) (HP2.out.below (HB3.out.trans (HO5.out.below.mono HB3.out.size))) ?_; intro v6 w6 ho6; have HO6 := Lib.hid ho6; clear ho6))
       go_ret
       refine ⟨v6, rfl, ?_⟩
       have HW3 : Below w.heap.size w w3 := HOB.out.trans (HB3.out.mono HOB.out.size)
       have hfin := HO6.out.lift HW3
       have e : behindL ps TT KK (some tv) = ps.take s ++ ([⟨TT, KK, tv⟩] ++ ps.drop (s + 0)) := by unfold behindL; rw [HPS3.out, HIS.out]; rfl
       have hgoal : OwnP w w6 v6 (behindL ps TT KK (some tv)) := by rw [e]; simpa using hfin
       exact hgoal
     ·cases tg with
      | true =>
       obtain ⟨hs1, hp1⟩ := slice_first (i := s) (HX.out.below HOB.out) (by omega) hc
       obtain ⟨y9, c9, hs2, hp2, hc9⟩ := slice_rest (i := s) (HX.out.below HOB.out) HN.out (by omega) hc
       have HP1 := Lib.hid hp1
       have HP2 := Lib.hid hp2
       have HL1 : Hid ((ps.take s).length = s) := Lib.hid (by rw [List.length_take, HN.out]; omega)
       have HL2 : Hid ((ps.drop (s)).length = n - (s)) := Lib.hid (by rw [List.length_drop, HN.out])
       have g2 := (HO.out.1.cell (p := ⟨X, 2, none⟩) (World.block_lt_of_cell? _ _ HBC.out.1)).trans HBC.out.1
       have g3 := (HO.out.1.cell (p := ⟨X, 3, none⟩) (World.block_lt_of_cell? _ _ HBC.out.2)).trans HBC.out.2
       clear hp1 hp2
       go_wp2_with (first
        | (go_at_call 27; (with_reducible refine HLC.out.mono ?_); rintro e w3 ⟨rfl, hb3⟩; have c0' := (hb3.cell (lt_of_cell c0)).trans c0; have c1' := (hb3.cell (lt_of_cell c1)).trans c1; have HB3 := Lib.hid hb3; have k2 := (hb3.cell (lt_of_cell g2)).trans g2; have k3 := (hb3.cell (lt_of_cell g3)).trans g3; clear hb3)
        | (at_builtin; refine wpList_append_list rfl _ _ rfl (OwnP.nil_ _) (by simp) rfl rfl HL1.out (by omega) (HP1.out.below HB3.out) ?_; intro v4 w4 ho4; have HO4 := Lib.hid ho4; have k2 := (HO4.out.below.cell (lt_of_cell k2)).trans k2; have k3 := (HO4.out.below.cell (lt_of_cell k3)).trans k3; have e0 := (HO4.out.below.cell (lt_of_cell c0')).trans c0'; have e1 := (HO4.out.below.cell (lt_of_cell c1')).trans c1'; clear ho4; obtain ⟨x4, n4, c4, hv4⟩ := HO4.out.shape'; have HV4 := Lib.hid hv4; subst hv4)
        | (at_builtin; refine wpList_append_list rfl _ _ rfl HO4.out (by rw [List.nil_append, HL1.out]; omega) rfl rfl HL2.out (by omega) (HP2.out.below (HB3.out.trans (HO4.out.below.mono HB3.out.size))) ?_; intro v6 w6 ho6; have HO6 := Lib.hid ho6; clear ho6))
       go_ret
       refine ⟨v6, rfl, ?_⟩
       have HW3 : Below w.heap.size w w3 := HOB.out.trans (HB3.out.mono HOB.out.size)
       have hfin := HO6.out.lift HW3
       have e : behindL ps TT KK none = ps.take s ++ ([] ++ ps.drop (s + 0)) := by unfold behindL; rw [HPS3.out, HIS.out]; rfl
       have hgoal : OwnP w w6 v6 (behindL ps TT KK none) := by rw [e]; simpa using hfin
       exact hgoal
      | false =>
       obtain ⟨hs1, hp1⟩ := slice_first (i := s) (HX.out.below HOB.out) (by omega) hc
       obtain ⟨y9, c9, hs2, hp2, hc9⟩ := slice_rest (i := s) (HX.out.below HOB.out) HN.out (by omega) hc
       have HP1 := Lib.hid hp1
       have HP2 := Lib.hid hp2
       have HL1 : Hid ((ps.take s).length = s) := Lib.hid (by rw [List.length_take, HN.out]; omega)
       have HL2 : Hid ((ps.drop (s)).length = n - (s)) := Lib.hid (by rw [List.length_drop, HN.out])
       have g2 := (HO.out.1.cell (p := ⟨X, 2, none⟩) (World.block_lt_of_cell? _ _ HBC.out.1)).trans HBC.out.1
       have g3 := (HO.out.1.cell (p := ⟨X, 3, none⟩) (World.block_lt_of_cell? _ _ HBC.out.2)).trans HBC.out.2
       clear hp1 hp2
       obtain ⟨N5, hN5⟩ : ∃ N5, (([] : List PairV) ++ ps.take s).length + 1 = N5 := ⟨_, rfl⟩
       have HN5 := Lib.hid hN5
       clear hN5
       go_wp2_with (first
        | (go_at_call 27; (with_reducible refine HLC.out.mono ?_); rintro e w3 ⟨rfl, hb3⟩; have c0' := (hb3.cell (lt_of_cell c0)).trans c0; have c1' := (hb3.cell (lt_of_cell c1)).trans c1; have HB3 := Lib.hid hb3; have k2 := (hb3.cell (lt_of_cell g2)).trans g2; have k3 := (hb3.cell (lt_of_cell g3)).trans g3; clear hb3)
        | (at_builtin; refine wpList_append_list rfl _ _ rfl (OwnP.nil_ _) (by simp) rfl rfl HL1.out (by omega) (HP1.out.below HB3.out) ?_; intro v4 w4 ho4; have HO4 := Lib.hid ho4; have k2 := (HO4.out.below.cell (lt_of_cell k2)).trans k2; have k3 := (HO4.out.below.cell (lt_of_cell k3)).trans k3; have e0 := (HO4.out.below.cell (lt_of_cell c0')).trans c0'; have e1 := (HO4.out.below.cell (lt_of_cell c1')).trans c1'; clear ho4; obtain ⟨x4, n4, c4, hv4⟩ := HO4.out.shape'; have HV4 := Lib.hid hv4; subst hv4)
        | (at_builtin; refine appendP rfl _ _ rfl HO4.out (by rw [List.nil_append, HL1.out]; omega) rfl rfl rfl ?_; intro y5 cap5 w5 ho5 hg5; rw [HN5.out] at ho5 ⊢; have HO5 := Lib.hid ho5; have e0' := (HO5.out.below.cell (lt_of_cell c0')).trans c0'; have e1' := (HO5.out.below.cell (lt_of_cell c1')).trans c1'; clear ho5 hg5)
        | (at_builtin; refine wpList_append_list rfl _ _ rfl HO5.out (by rw [List.length_append, List.nil_append, HL1.out, List.length_singleton]; omega) rfl rfl HL2.out (by omega) (HP2.out.below (HB3.out.trans (HO5.out.below.mono HB3.out.size))) ?_; intro v6 w6 ho6; have HO6 := Lib.hid ho6; clear ho6))
       go_ret
       refine ⟨v6, rfl, ?_⟩
       have HW3 : Below w.heap.size w w3 := HOB.out.trans (HB3.out.mono HOB.out.size)
       have hfin := HO6.out.lift HW3
       have e : behindL ps TT KK (some tv) = ps.take s ++ ([⟨TT, KK, tv⟩] ++ ps.drop (s + 0)) := by unfold behindL; rw [HPS3.out, HIS.out]; rfl
       have hgoal : OwnP w w6 v6 (behindL ps TT KK (some tv)) := by rw [e]; simpa using hfin
       exact hgoal
  ·have q2 : ¬ (s : Int) < n := by omega
   obtain rfl : s = n := by omega
   have HPS3 : Hid (posB ps TT KK = s) := Lib.hid (posB_is (by rw [HN.out]; exact Nat.le_refl _) HO.out.2 (fun h => absurd h (by rw [HN.out]; exact Nat.lt_irrefl _)))
   have HIS : Hid ((ps.drop s).head?.any (isP TT KK) = false) := Lib.hid (by rw [List.drop_eq_nil_of_le (by rw [HN.out]; exact Nat.le_refl _)]; rfl)
   cases tg with
   | true =>
    obtain ⟨hs1, hp1⟩ := slice_first (i := s) (HX.out.below HOB.out) (by omega) hc
    obtain ⟨y9, c9, hs2, hp2, hc9⟩ := slice_rest (i := s) (HX.out.below HOB.out) HN.out (by omega) hc
    have HP1 := Lib.hid hp1
    have HP2 := Lib.hid hp2
    have HL1 : Hid ((ps.take s).length = s) := Lib.hid (by rw [List.length_take, HN.out]; omega)
    have HL2 : Hid ((ps.drop (s)).length = 0) := Lib.hid (by rw [List.length_drop, HN.out]; exact Nat.sub_self _)
    have g2 := (HO.out.1.cell (p := ⟨X, 2, none⟩) (World.block_lt_of_cell? _ _ HBC.out.1)).trans HBC.out.1
    have g3 := (HO.out.1.cell (p := ⟨X, 3, none⟩) (World.block_lt_of_cell? _ _ HBC.out.2)).trans HBC.out.2
    clear hp1 hp2
    go_wp2_with (first
     | (at_builtin; refine wpList_append_list rfl _ _ rfl (OwnP.nil_ _) (by simp) rfl rfl HL1.out (by omega) HP1.out ?_; intro v4 w4 ho4; have HO4 := Lib.hid ho4; have k2 := (HO4.out.below.cell (lt_of_cell g2)).trans g2; have k3 := (HO4.out.below.cell (lt_of_cell g3)).trans g3; clear ho4; obtain ⟨x4, n4, c4, hv4⟩ := HO4.out.shape'; have HV4 := Lib.hid hv4; subst hv4)
     | (at_builtin; refine wpList_append_list rfl _ _ rfl HO4.out (by rw [List.nil_append, HL1.out]; omega) rfl rfl HL2.out (by omega) (HP2.out.below (HO4.out.below)) ?_; intro v6 w6 ho6; have HO6 := Lib.hid ho6; clear ho6))
    go_ret
    refine ⟨v6, rfl, ?_⟩
    have HW3 : Below w.heap.size w wr := HOB.out
    have hfin := HO6.out.lift HW3
    have e : behindL ps TT KK none = ps.take s ++ ([] ++ ps.drop (s + 0)) := by unfold behindL; rw [HPS3.out, HIS.out]; rfl
    have hgoal : OwnP w w6 v6 (behindL ps TT KK none) := by rw [e]; simpa using hfin
    exact hgoal
   | false =>
    obtain ⟨hs1, hp1⟩ := slice_first (i := s) (HX.out.below HOB.out) (by omega) hc
    obtain ⟨y9, c9, hs2, hp2, hc9⟩ := slice_rest (i := s) (HX.out.below HOB.out) HN.out (by omega) hc
    have HP1 := Lib.hid hp1
    have HP2 := Lib.hid hp2
    have HL1 : Hid ((ps.take s).length = s) := Lib.hid (by rw [List.length_take, HN.out]; omega)
    have HL2 : Hid ((ps.drop (s)).length = 0) := Lib.hid (by rw [List.length_drop, HN.out]; exact Nat.sub_self _)
    have g2 := (HO.out.1.cell (p := ⟨X, 2, none⟩) (World.block_lt_of_cell? _ _ HBC.out.1)).trans HBC.out.1
    have g3 := (HO.out.1.cell (p := ⟨X, 3, none⟩) (World.block_lt_of_cell? _ _ HBC.out.2)).trans HBC.out.2
    clear hp1 hp2
    obtain ⟨N5, hN5⟩ : ∃ N5, (([] : List PairV) ++ ps.take s).length + 1 = N5 := ⟨_, rfl⟩
    have HN5 := Lib.hid hN5
    clear hN5
    go_wp2_with (first
     | (at_builtin; refine wpList_append_list rfl _ _ rfl (OwnP.nil_ _) (by simp) rfl rfl HL1.out (by omega) HP1.out ?_; intro v4 w4 ho4; have HO4 := Lib.hid ho4; have k2 := (HO4.out.below.cell (lt_of_cell g2)).trans g2; have k3 := (HO4.out.below.cell (lt_of_cell g3)).trans g3; clear ho4; obtain ⟨x4, n4, c4, hv4⟩ := HO4.out.shape'; have HV4 := Lib.hid hv4; subst hv4)
     | (at_builtin; refine appendP rfl _ _ rfl HO4.out (by rw [List.nil_append, HL1.out]; omega) rfl rfl rfl ?_; intro y5 cap5 w5 ho5 hg5; rw [HN5.out] at ho5 ⊢; have HO5 := Lib.hid ho5; clear ho5 hg5)
     | (at_builtin; refine wpList_append_list rfl _ _ rfl HO5.out (by rw [List.length_append, List.nil_append, HL1.out, List.length_singleton]; omega) rfl rfl HL2.out (by omega) (HP2.out.below (HO5.out.below)) ?_; intro v6 w6 ho6; have HO6 := Lib.hid ho6; clear ho6))
    go_ret
    refine ⟨v6, rfl, ?_⟩
    have HW3 : Below w.heap.size w wr := HOB.out
    have hfin := HO6.out.lift HW3
    have e : behindL ps TT KK (some tv) = ps.take s ++ ([⟨TT, KK, tv⟩] ++ ps.drop (s + 0)) := by unfold behindL; rw [HPS3.out, HIS.out]; rfl
    have hgoal : OwnP w w6 v6 (behindL ps TT KK (some tv)) := by rw [e]; simpa using hfin
    exact hgoal
end Go.Proofs.YtlommddabccdeaaGreatDoor
