/-
  What lines are printed as; the walks of package ini's standing and written.
-/
import Derived.Test.YtbpbiakdigjcnaaDoorIniRefParse
import Derived.Lib.AppendStr
namespace Go.Proofs.YtbpbiakdigjcnaaDoor
open Go.ChangeShapes Go.WideShapes Go.ChangeAt Go.RowKit

/-- A text as it stands in a file. -/
def standL (t : List UInt8) : List UInt8 := if t ≠ [] ∧ trimB t = t ∧ bareB t = true then t else quoteL t
def entryL (l : LineV) : List UInt8 := ((l.name.data.toList ++ [32, 61, 32]) ++ standL l.text.data.toList) ++ [10]
def printGo (done : List LineV) (b : List UInt8) : List LineV → Option (List UInt8)
  | [] => some b
  | l :: r => if givenB done l.name.data.toList = false ∧ nameB l.name.data.toList = true ∧ l.text.size ≤ 200 ∧ (b ++ entryL l).length ≤ 8000 then printGo (done ++ [l]) (b ++ entryL l) r else none
/-- What lines are printed as. -/
def printF (ls : List LineV) : Option (List UInt8) := printGo [] [] ls
theorem standL_len (t : List UInt8) : (standL t).length ≤ 4 * t.length + 2 := by
  unfold standL
  split
  · omega
  · have := flat_len t
    unfold quoteL
    simp only [List.length_append, List.length_cons, List.length_nil]
    omega

set_option maxHeartbeats 800000 in
set_option maxRecDepth 100000 in
theorem standing_any (s : ByteArray) (w : World) (hs : s.size ≤ 4294967280) :
    Calls Tryd.prog 36 #[.string s] w fun e w' => e = .returned (.string (mkB (standL s.data.toList))) ∧ Below w.heap.size w w' := by
  obtain ⟨r, hr⟩ : ∃ r, standL s.data.toList = r := ⟨_, rfl⟩
  have HR : Hid (r = if s.data.toList ≠ [] ∧ trimB s.data.toList = s.data.toList ∧ bareB s.data.toList = true then s.data.toList else quoteL s.data.toList) := Lib.hid hr.symm
  rw [hr]
  clear hr
  have HQ : Hid (∀ w1, Calls Tryd.prog 46 #[.string s] w1 fun e w' => e = .returned (.string (mkB (quoteL s.data.toList))) ∧ Below w1.heap.size w1 w') := Lib.hid fun w1 => quote_any s w1 (by omega)
  by_cases h0 : s.size = 0
  · obtain rfl := empty_bytes h0
    have HE : Hid (r = quoteL (⟨#[]⟩ : ByteArray).data.toList) := Lib.hid (by rw [HR.out, if_neg (fun h => h.1 rfl)])
    clear h0
    go_enter Tryd.func36, Tryd.ntmps36
    go_wp2_with fail
    refine (HQ.out _).mono ?_
    rintro e w1 ⟨rfl, hb1⟩
    go_wp2
    go_ret
    exact ⟨by rw [HE.out]; first | done | rfl, hb1⟩
  have hne : s.data.toList ≠ [] := fun e => h0 (by rw [show s.size = s.data.toList.length from by simp, e]; rfl)
  have d0 := nonempty_list s (by omega)
  have HT := Lib.hid (trim_any s w hs)
  have HP : Hid (∀ w1, Calls Tryd.prog 44 #[.string s, .string ⟨#[34]⟩] w1 fun e w' => e = .returned (.bool (decide (s.data.toList.head? = some 34))) ∧ w1 = w') := Lib.hid fun w1 => quoted_any s w1
  have HPL : Hid (∀ w1, Calls Tryd.prog 45 #[.string s] w1 fun e w' => e = .returned (.bool (plainB s.data.toList)) ∧ w1 = w') := Lib.hid fun w1 => isPlain_any s w1 (by unfold maxLen; omega)
  unfold blB at HT
  by_cases ht : trimB s.data.toList = s.data.toList
  · have d1 : ((mkB (trimB s.data.toList)).toList == s.toList) = true := by rw [ht, mkB_self]; simp
    obtain ⟨T, hT⟩ : ∃ T, mkB (trimB s.data.toList) = T := ⟨_, rfl⟩
    rw [hT] at HT d1
    clear hT
    by_cases hq : s.data.toList.head? = some 34
    · have HE : Hid (r = quoteL s.data.toList) := Lib.hid (by
        rw [HR.out, if_neg]
        intro h
        have := h.2.2
        unfold bareB at this
        rw [hq] at this
        simp at this)
      rw [decide_eq_true hq] at HP
      clear h0 hne ht hq
      go_enter Tryd.func36, Tryd.ntmps36
      go_wp2_with fail
      refine HT.out.mono ?_
      rintro e w1 ⟨rfl, hb1⟩
      have HB1 := Lib.hid hb1
      clear hb1
      go_wp2_with fail
      refine (HP.out _).mono ?_
      rintro e w' ⟨rfl, rfl⟩
      go_wp2_with fail
      refine (HQ.out _).mono ?_
      rintro e w2 ⟨rfl, hb2⟩
      have HB2 := Lib.hid (HB1.out.trans (hb2.mono HB1.out.size))
      clear hb2
      go_wp2
      go_ret
      exact ⟨by rw [HE.out]; first | done | rfl, HB2.out⟩
    · have hq2 : (s.data.toList.head? == some 34) = false := by simpa using hq
      rw [decide_eq_false hq] at HP
      cases hp : plainB s.data.toList with
      | true =>
        rw [hp] at HPL
        have HE : Hid (mkB r = s) := Lib.hid (by
          rw [HR.out, if_pos ⟨hne, ht, by unfold bareB; rw [hp, hq2]; rfl⟩, mkB_self])
        clear h0 hne ht hq hq2 hp
        go_enter Tryd.func36, Tryd.ntmps36
        go_wp2_with fail
        refine HT.out.mono ?_
        rintro e w1 ⟨rfl, hb1⟩
        have HB1 := Lib.hid hb1
        clear hb1
        go_wp2_with fail
        refine (HP.out _).mono ?_
        rintro e w' ⟨rfl, rfl⟩
        go_wp2_with fail
        refine (HPL.out _).mono ?_
        rintro e w' ⟨rfl, rfl⟩
        go_wp2
        go_ret
        exact ⟨by rw [HE.out]; first | done | rfl, HB1.out⟩
      | false =>
        rw [hp] at HPL
        have HE : Hid (r = quoteL s.data.toList) := Lib.hid (by
          rw [HR.out, if_neg]
          intro h
          have := h.2.2
          unfold bareB at this
          rw [hp] at this
          simp at this)
        clear h0 hne ht hq hq2 hp
        go_enter Tryd.func36, Tryd.ntmps36
        go_wp2_with fail
        refine HT.out.mono ?_
        rintro e w1 ⟨rfl, hb1⟩
        have HB1 := Lib.hid hb1
        clear hb1
        go_wp2_with fail
        refine (HP.out _).mono ?_
        rintro e w' ⟨rfl, rfl⟩
        go_wp2_with fail
        refine (HPL.out _).mono ?_
        rintro e w' ⟨rfl, rfl⟩
        go_wp2_with fail
        refine (HQ.out _).mono ?_
        rintro e w2 ⟨rfl, hb2⟩
        have HB2 := Lib.hid (HB1.out.trans (hb2.mono HB1.out.size))
        clear hb2
        go_wp2
        go_ret
        exact ⟨by rw [HE.out]; first | done | rfl, HB2.out⟩
  · have HE : Hid (r = quoteL s.data.toList) := Lib.hid (by rw [HR.out, if_neg (fun h => ht h.2.1)])
    have d1 : ((mkB (trimB s.data.toList)).toList == s.toList) = false := beq_eq_false_iff_ne.2 (fun e => ht (by rw [toList_eq, toList_eq, mkB_data] at e; exact e))
    obtain ⟨T, hT⟩ : ∃ T, mkB (trimB s.data.toList) = T := ⟨_, rfl⟩
    rw [hT] at HT d1
    clear h0 hne ht hT
    go_enter Tryd.func36, Tryd.ntmps36
    go_wp2_with fail
    refine HT.out.mono ?_
    rintro e w1 ⟨rfl, hb1⟩
    have HB1 := Lib.hid hb1
    clear hb1
    go_wp2_with fail
    refine (HQ.out _).mono ?_
    rintro e w2 ⟨rfl, hb2⟩
    have HB2 := Lib.hid (HB1.out.trans (hb2.mono HB1.out.size))
    clear hb2
    go_wp2
    go_ret
    exact ⟨by rw [HE.out]; first | done | rfl, HB2.out⟩

theorem strCells_b8 (s : ByteArray) : Lib.strCells s = s.data.toList.map b8 := rfl
/-- A text's bytes go to a row of bytes. -/
theorem appendS {ops : Array Oper} {rest : List Oper} {o : Oper} {a : Act} {Q : Exit → Act → World → Prop} (hgd : o.guard = none) (sl x : Operand)
    (ho : o.op = .call { callee := .builtin .append, args := #[sl, x], argTypes := #[32, 9] }) {B : Nat} {w : World} {v : Value} {l : List UInt8} (hown : w.ownsRow B 5 1 v l.length (l.map b8)) (hB : B ≤ w.heap.size) (hs : a.eval sl = v)
    (s : ByteArray) (hx : a.eval x = .string s) (hb : l.length + s.size ≤ 70368744177664)
    (h : ∀ v' w', w'.ownsRow B 5 1 v' (l ++ s.data.toList).length ((l ++ s.data.toList).map b8) → w.grownBy w' v.ownBlock → wpList Tryd.prog ops Q rest (a.put o.dst v') w') : wpList Tryd.prog ops Q (o :: rest) a w := by
  obtain ⟨i0, hi, hz0, hz1, hz2⟩ := info_parts info8
  refine Lib.wpList_append_own_string _ hgd sl x 32 9 ho B 5 i0 Tryd.underlying32 Tryd.underlying9 hi hz0 hz1 hz2 v l.length (l.map b8) hs hown s hx (by unfold maxLen; omega) (by omega) hB ?_
  intro v' w' h1 h2 _
  refine h v' w' ?_ h2
  rw [List.length_append, List.map_append, ← strCells_b8, show s.data.toList.length = s.size from by simp]
  exact h1
/-- The same as one step of a region that draws its order. -/
theorem stepS {ops : Array Oper} {o : Oper} {a : Act} {K : Act → World → Prop} {Q : Exit → Act → World → Prop} {E : Prop} (hgd : o.guard = none) (sl x : Operand)
    (ho : o.op = .call { callee := .builtin .append, args := #[sl, x], argTypes := #[32, 9] }) {B : Nat} {w : World} {v : Value} {l : List UInt8} (hown : w.ownsRow B 5 1 v l.length (l.map b8)) (hB : B ≤ w.heap.size) (hs : a.eval sl = v)
    (s : ByteArray) (hx : a.eval x = .string s) (hb : l.length + s.size ≤ 70368744177664)
    (h : ∀ v' w', w'.ownsRow B 5 1 v' (l ++ s.data.toList).length ((l ++ s.data.toList).map b8) → w.grownBy w' v.ownBlock → K (a.put o.dst v') w') :
    if Region.wanted o (yielded ops a.tmps) = true then Oper.wp Tryd.prog o a w K Q else E := by
  have hw : Region.wanted o (yielded ops a.tmps) = true := by simp [Region.wanted, hgd]
  rw [if_pos hw]
  obtain ⟨i0, hi, hz0, hz1, hz2⟩ := info_parts info8
  obtain ⟨v', w', hr, h1, h2, _⟩ := Lib.run_append_own_string (P := Tryd.prog) w B 32 9 o.type 5 i0 Tryd.underlying32 Tryd.underlying9 hi hz0 hz1 hz2 v l.length (l.map b8) hown s (by unfold maxLen; omega) (by omega) hB
  unfold Oper.wp execOp
  simp only [ho, resolve, invoke, builtin, Sem.run_bind, Sem.run_pure, Result.andThen_ok, List.map_toArray, List.map_cons, List.map_nil, hs, hx, hr]
  refine h v' w' ?_ h2
  rw [List.length_append, List.map_append, ← strCells_b8, show s.data.toList.length = s.size from by simp]
  exact h1
end Go.Proofs.YtbpbiakdigjcnaaDoor
