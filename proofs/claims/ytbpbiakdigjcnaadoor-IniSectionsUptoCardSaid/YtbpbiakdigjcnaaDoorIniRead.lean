/-
  The walk of package ini's read.
-/
import Derived.Test.YtbpbiakdigjcnaaDoorIniTake
namespace Go.Proofs.YtbpbiakdigjcnaaDoor
open Go.ChangeShapes Go.WideShapes Go.ChangeAt Go.RowKit

theorem cuts_len {d : UInt8} (l : List UInt8) : ∀ x ∈ cuts d l, x.length ≤ l.length := by
  induction l with
  | nil => intro x hx; simp [cuts] at hx; simp [hx]
  | cons c r ih =>
    intro x hx
    by_cases h : c = d
    · subst h
      rw [cuts_sep] at hx
      rcases List.mem_cons.1 hx with rfl | hx
      · simp
      · have := ih x hx; simp; omega
    · obtain ⟨p, ps, h1, h2⟩ := cuts_cons (r := r) h
      rw [h2] at hx
      rw [h1] at ih
      rcases List.mem_cons.1 hx with rfl | hx
      · have := ih p (by simp); simp; omega
      · have := ih x (by simp [hx]); simp; omega
theorem step_len {num : Nat} {a a' : List UInt8} {ls ls' : List LineV} {x : List UInt8} (h : stepB num (a, ls) x = some (a', ls')) (ha : a.length ≤ 10000) (hx : x.length ≤ 8000) : a'.length ≤ 10000 ∧ ls'.length ≤ ls.length + 1 := by
  unfold stepB at h
  split at h
  · simp only [Option.some.injEq, Prod.mk.injEq] at h
    obtain ⟨rfl, rfl⟩ := h
    exact ⟨ha, by omega⟩
  · split at h
    · obtain ⟨b, hb, e⟩ := Option.map_eq_some_iff.1 h
      simp only [Prod.mk.injEq] at e
      obtain ⟨rfl, rfl⟩ := e
      unfold secOf at hb
      split at hb
      · rw [← Option.some.inj hb]
        split
        · simp
        · simp; omega
      · cases hb
    · split at h
      · obtain ⟨b, _, e⟩ := Option.map_eq_some_iff.1 h
        simp only [Prod.mk.injEq] at e
        obtain ⟨rfl, rfl⟩ := e
        exact ⟨ha, by simp⟩
      · cases h
theorem RS.number {B : Nat} {w : World} {R M : Nat} {num : Int} {a : List UInt8} {ls : List LineV} {v : Value} (h : RS B w R M num a ls v) (n : Int) : RS B (w.setCell ⟨R, 0, none⟩ (.int .i64 n)) R M n a ls v := by
  have o : ∀ j, 0 ≠ j → (w.setCell ⟨R, 0, none⟩ (.int .i64 n)).cell? ⟨R, j, none⟩ = w.cell? ⟨R, j, none⟩ := fun j hj => World.cell?_setCell_other _ _ _ _ (fun e => hj (by injection e))
  have hbut : But R w (w.setCell ⟨R, 0, none⟩ (.int .i64 n)) := (But.refl R w).setCell 0 _
  exact ⟨⟨World.cell?_setCell_same _ _ _ h.rd.c0, by rw [o 1 (by decide)]; exact h.rd.c1, by rw [o 2 (by decide)]; exact h.rd.c2, by rw [o 3 (by decide)]; exact h.rd.c3, fun j hj => by rw [World.frozen?_setCell]; exact h.rd.fz j hj⟩,
    h.set.same (hbut.2.2.2.2 M h.set.lt (fun e => h.hne e.symm)), h.row.kept (grown_of_but hbut) (Or.inr h.r1), Nat.le_trans h.base hbut.2.2.2.1, h.hne, h.r1, h.r2⟩
theorem own_less {w : World} {B B' : Nat} {e : TypeId} {size n : Nat} {v : Value} {xs : List Value} (h : w.ownsRow B' e size v n xs) (hB : B ≤ B') : w.ownsRow B e size v n xs := by
  refine ⟨h.1, ?_⟩
  rcases h.2 with h2 | ⟨g, cap, cur, h1, h2, h3⟩
  · exact .inl h2
  · exact .inr ⟨g, cap, cur, h1, Nat.le_trans hB h2, h3⟩
theorem maxI_below {w w' : World} (h : MaxI w) (hb : Below w.heap.size w w') : MaxI w' := by
  obtain ⟨m, hm⟩ := h
  exact ⟨m, (hb.cell (p := ⟨4, 0, none⟩) (lt_of_cell hm)).trans hm⟩
theorem trimB_len (x : List UInt8) : (trimB x).length ≤ x.length := Nat.le_trans (trimL_len (trimR x)) (trimR_len x)
/-- What read does. -/
def ReadRes (w : World) (s : List UInt8) (e : Ending) (w' : World) : Prop :=
  Below w.heap.size w w' ∧ if 8000 < s.length then e = .panicked [{ v := faultV 61 0, recovered := false }] else
    match runB 1 ([], []) (cuts 10 s) with
    | .inl n => e = bad n
    | .inr out => ∃ v, e = .returned v ∧ w'.ownsRow w.heap.size 35 3 v out.length (flatL out)
theorem run_step {t : Nat} {st : List UInt8 × List LineV} {all : List (List UInt8)} (h : t < all.length) : runB (t + 1) st (all.drop t) = match stepB (t + 1) st (trimB all[t]) with
    | none => .inl (t + 1)
    | some st' => runB (t + 1 + 1) st' (all.drop (t + 1)) := by
  rw [List.drop_eq_getElem_cons h, runB]
  cases stepB (t + 1) st (trimB all[t]) <;> rfl

set_option maxHeartbeats 1600000 in
set_option maxRecDepth 100000 in
theorem read_any (s : ByteArray) (w : World) (hT : Tab w) (hI : MaxI w) (hs : s.size ≤ 4294967280) :
    Calls Tryd.prog 28 #[.string s] w (ReadRes w s.data.toList) := by
  have hlen : s.data.toList.length = s.size := by simp
  by_cases hl : 8000 < s.size
  · have HE : Hid (∀ w', Below w.heap.size w w' → ReadRes w s.data.toList (.panicked [{ v := faultV 61 0, recovered := false }]) w') := Lib.hid fun w' hb => ⟨hb, by rw [if_pos (by omega)]⟩
    have q1 : ¬ (s.size : Int) ≤ 8000 := by omega
    clear hT hI hlen hl
    go_enter Tryd.func28, Tryd.ntmps28
    go_wp2_with fail
    refine (must_no 61 0 _).mono ?_
    rintro e w1 ⟨rfl, hb1⟩
    exact ⟨by first | rfl | trivial, HE.out _ hb1⟩
  · have q1 : (s.size : Int) ≤ 8000 := by omega
    have HT := Lib.hid hT
    have HI := Lib.hid hI
    have hmm := @run_makeMap Tryd.prog
    have HCL : Hid (∀ x ∈ cuts 10 s.data.toList, x.length ≤ 8000) := Lib.hid fun x hx => Nat.le_trans (cuts_len _ x hx) (by omega)
    have hcc : (cuts 10 s.data.toList).length ≤ 8001 := by
      rw [cuts_count]
      have := List.count_le_length (a := (10 : UInt8)) (l := s.data.toList)
      omega
    have HSP : Hid (∀ w1, MaxI w1 → Calls Tryd.prog 37 #[.string s, .string ⟨#[10]⟩] w1 fun e w' => e = .returned (.slice (some ⟨w1.heap.size, 0, none⟩) (cuts 10 s.data.toList).length (cuts 10 s.data.toList).length) ∧ w' = w1.alloc (.cells (((cuts 10 s.data.toList).map mkB).map Value.string).toArray 9)) := Lib.hid fun w1 h1 => splitAt_any 10 s w1 hs h1
    have HE : Hid (∀ e w', Below w.heap.size w w' → (match runB 1 ([], []) (cuts 10 s.data.toList) with
      | .inl n => e = bad n
      | .inr out => ∃ v, e = .returned v ∧ w'.ownsRow w.heap.size 35 3 v out.length (flatL out)) → ReadRes w s.data.toList e w') := Lib.hid fun e w' hb h => ⟨hb, by rw [if_neg (by omega)]; exact h⟩
    obtain ⟨all, hall⟩ : ∃ all, cuts 10 s.data.toList = all := ⟨_, rfl⟩
    rw [hall] at HCL hcc HSP HE
    obtain ⟨n, hn⟩ : ∃ n, all.length = n := ⟨_, rfl⟩
    have HN := Lib.hid hn
    rw [hn] at hcc HSP
    clear hT hI hlen hl hall hn
    go_enter Tryd.func28, Tryd.ntmps28
    go_wp2_with fail
    refine (must_ok 61 0 _).mono ?_
    rintro e w1 ⟨rfl, hb1⟩
    have HB1 := Lib.hid hb1
    clear hb1
    have HW2 : Hid (∀ t, Below w.heap.size w ((w1.alloc (.map #[] 0)).alloc (Obj.cells #[.int .i64 0, .string ⟨#[]⟩, .map (some w1.heap.size), .slice none 0 0] t)) ∧ RdAt ((w1.alloc (.map #[] 0)).alloc (Obj.cells #[.int .i64 0, .string ⟨#[]⟩, .map (some w1.heap.size), .slice none 0 0] t)) (w1.heap.size + 1) 0 [] w1.heap.size (.slice none 0 0) ∧ SetM ((w1.alloc (.map #[] 0)).alloc (Obj.cells #[.int .i64 0, .string ⟨#[]⟩, .map (some w1.heap.size), .slice none 0 0] t)) w1.heap.size []) := Lib.hid fun t => by
      have hz : (w1.alloc (.map #[] 0)).heap.size = w1.heap.size + 1 := by simp
      refine ⟨HB1.out.trans (((below_one w1 _).mono HB1.out.size).trans ((below_one _ _).mono (by rw [hz]; have := HB1.out.size; omega))), ?_, (SetM.made w1).below (below_one _ _)⟩
      rw [← hz]
      exact ⟨by simp, by simp; rfl, by simp, by simp, fun j _ => by simp⟩
    go_wp2_with fail
    refine (HSP.out _ (maxI_below HI.out (HW2.out _).1)).mono ?_
    rintro e w2 ⟨rfl, hw2⟩
    have HST : Hid (RS w2.heap.size w2 (w1.heap.size + 1) w1.heap.size 0 [] [] (.slice none 0 0) ∧ Below w.heap.size w w2 ∧ w2.heap[w1.heap.size + 2]? = some (.cells ((all.map mkB).map Value.string).toArray 9 (0, 0)) ∧ w2.heap.size = w1.heap.size + 3) := Lib.hid (by
      obtain ⟨h1, h2, h3⟩ := HW2.out 59
      have hb := below_one ((w1.alloc (.map #[] 0)).alloc (Obj.cells #[.int .i64 0, .string ⟨#[]⟩, .map (some w1.heap.size), .slice none 0 0] 59)) (.cells ((all.map mkB).map Value.string).toArray 9)
      rw [hw2]
      refine ⟨⟨h2.below hb, h3.below hb, World.ownsRow_nil _ _ _ _, Nat.le_refl _, by omega, by simp [Value.ownBlock], by simp [Value.ownBlock]⟩, h1.trans (hb.mono h1.size), ?_, by simp⟩
      have hz : ((w1.alloc (.map #[] 0)).alloc (Obj.cells #[.int .i64 0, .string ⟨#[]⟩, .map (some w1.heap.size), .slice none 0 0] 59)).heap.size = w1.heap.size + 2 := by simp
      rw [← hz]
      exact heap_alloc_new _ _)
    have HM1 := Lib.hid HB1.out.size
    rw [show ((w1.alloc (.map #[] 0)).alloc (Obj.cells #[.int .i64 0, .string ⟨#[]⟩, .map (some w1.heap.size), .slice none 0 0] 59)).heap.size = w1.heap.size + 2 by simp]
    clear hw2 HW2 HSP
    obtain ⟨M, hM⟩ : ∃ M, w1.heap.size = M := ⟨_, rfl⟩
    rw [hM] at HST HM1 ⊢
    have HMM := Lib.hid hM
    clear hM HB1
    go_wp2
    go_loopw [16, 4, 5] (fun i _ _ wr => ∃ t : Nat, i = .int .i64 t ∧ t ≤ n ∧ Hid (∃ (num : Int) (a : List UInt8) (ls : List LineV) (v : Value), RS w2.heap.size wr (M + 1) M num a ls v ∧ runB 1 ([], []) all = runB (t + 1) (a, ls) (all.drop t) ∧ Fr w2.heap.size (M + 1) M w2 wr ∧ a.length ≤ 10000 ∧ ls.length ≤ t)) (fun i _ _ _ => n - (intOf i).toNat)
    case atStart => exact ⟨0, rfl, by omega, Lib.hid ⟨0, [], [], _, HST.out.1, rfl, Fr.refl _ _ _ _, by simp, by simp⟩⟩
    case round =>
      obtain ⟨t, rfl, ht, HK⟩ := hrel
      obtain ⟨num, a, ls, v, hrs, hrun, hfr, ha, hll⟩ := HK.out
      have HRS := Lib.hid hrs
      have HRN := Lib.hid hrun
      have HFR := Lib.hid hfr
      have HBL : Hid (Below w.heap.size w wr) := Lib.hid ⟨hfr.os.trans HST.out.2.1.os, hfr.tape.trans HST.out.2.1.tape, hfr.output.trans HST.out.2.1.output, Nat.le_trans HST.out.2.1.size hfr.size, fun k hk => (hfr.block k (Nat.lt_of_lt_of_le hk HST.out.2.1.size) (by have := HM1.out; omega) (by have := HM1.out; omega)).trans (HST.out.2.1.block k hk)⟩
      clear hrs hrun hfr HK
      by_cases hlt : t < n
      · have htx : t < all.length := by rw [HN.out]; exact hlt
        have hg : wr.heap[M + 2]? = some (.cells ((all.map mkB).map Value.string).toArray 9 (0, 0)) := by
          rw [HFR.out.block (M + 2) (by rw [HST.out.2.2.2]; omega) (by omega) (by omega)]
          exact HST.out.2.2.1
        have cx : wr.cell? ⟨M + 2, t, none⟩ = some (.string (mkB all[t])) := by
          rw [cell_of_row wr (M + 2) t _ _ _ hg]
          simp [htx]
        have HRS2 := Lib.hid (run_step (st := (a, ls)) htx)
        have HCX := Lib.hid (HCL.out _ (List.getElem_mem htx))
        generalize all[t] = x at cx HRS2 HCX
        have c0 := HRS.out.rd.c0
        have f0 := HRS.out.rd.fz 0 (by decide)
        have q2 : (0 : Int) ≤ t := by omega
        have q3 : (t : Int) < n := by omega
        have HNM : Hid (RS w2.heap.size (wr.setCell ⟨M + 1, 0, none⟩ (.int .i64 ((t : Int) + 1))) (M + 1) M ((t + 1 : Nat) : Int) a ls v) := Lib.hid (by
          have h := HRS.out.number ((t : Int) + 1)
          exact h)
        have HF1 : Hid (Fr w2.heap.size (M + 1) M wr (wr.setCell ⟨M + 1, 0, none⟩ (.int .i64 ((t : Int) + 1)))) := Lib.hid (fr_but ((But.refl (M + 1) wr).setCell 0 _) HRS.out.base)
        have HTR : Hid (∀ w4, Calls Tryd.prog 39 #[.string (mkB x), .string ⟨#[32, 9]⟩] w4 fun e w' => e = .returned (.string (mkB (trimB x))) ∧ Below w4.heap.size w4 w') := Lib.hid fun w4 => by
          have := trim_any (mkB x) w4 (by rw [len_mkB]; have := HCX.out; omega)
          rw [mkB_data] at this
          exact this
        clear hg htx
        have HBW : Hid (∀ w', Fr w2.heap.size (M + 1) M wr w' → Below w.heap.size w w') := Lib.hid fun w' hf => ⟨hf.os.trans HBL.out.os, hf.tape.trans HBL.out.tape, hf.output.trans HBL.out.output, Nat.le_trans HBL.out.size hf.size, fun k hk => (hf.block k (Nat.lt_of_lt_of_le hk HST.out.2.1.size) (by have := HM1.out; omega) (by have := HM1.out; omega)).trans (HBL.out.block k hk)⟩
        go_wp2_with fail
        refine (HTR.out _).mono ?_
        rintro e w4 ⟨rfl, hb4⟩
        have HN4 := Lib.hid (HNM.out.below hb4)
        have HF4 := Lib.hid (HF1.out.trans (fr_of (hb4.mono HNM.out.base)))
        have HTK : Hid (Calls Tryd.prog 38 #[.pointer (some ⟨M + 1, 0, none⟩), .string (mkB (trimB x))] w4 (TakeRes w2.heap.size w4 (M + 1) M ((t + 1 : Nat) : Int) (stepB (t + 1) (a, ls) (trimB x)))) := Lib.hid (by
          have hx := trimB_len x
          have hc := HCX.out
          have := take_any w2.heap.size (M + 1) M (t + 1) a ls v (mkB (trimB x)) w4 HN4.out (HT.out.below (HBW.out _ HF4.out)) (maxI_below HI.out (HBW.out _ HF4.out)) (by rw [len_mkB]; omega) ha (by omega)
          rw [mkB_data] at this
          exact this)
        have HXL : Hid ((trimB x).length ≤ 8000) := Lib.hid (Nat.le_trans (trimB_len x) HCX.out)
        clear hb4 HTR HNM HF1 c0 f0 cx
        obtain ⟨so, hso⟩ : ∃ so, stepB (t + 1) (a, ls) (trimB x) = so := ⟨_, rfl⟩
        have HSO := Lib.hid hso
        rw [hso] at HTK HRS2
        clear hso
        go_wp2_with fail
        refine HTK.out.mono ?_
        cases so with
        | none =>
          rintro e w5 ⟨rfl, hf5⟩
          have HEE : Hid (ReadRes w s.data.toList (bad ((t + 1 : Nat) : Int)) w5) := Lib.hid (HE.out _ _ (HBW.out _ (HF4.out.trans hf5)) (by rw [HRN.out, HRS2.out]))
          exact ⟨by first | rfl | trivial, HEE.out⟩
        | some st =>
          obtain ⟨a', ls'⟩ := st
          rintro e w5 ⟨rfl, hf5, v', hr5⟩
          have HNX : Hid (∃ (num : Int) (a : List UInt8) (ls : List LineV) (v : Value), RS w2.heap.size w5 (M + 1) M num a ls v ∧ runB 1 ([], []) all = runB (t + 1 + 1) (a, ls) (all.drop (t + 1)) ∧ Fr w2.heap.size (M + 1) M w2 w5 ∧ a.length ≤ 10000 ∧ ls.length ≤ t + 1) := Lib.hid (by
            obtain ⟨h1, h2⟩ := step_len HSO.out ha HXL.out
            exact ⟨_, a', ls', v', hr5, by rw [HRN.out, HRS2.out], HFR.out.trans (HF4.out.trans hf5), h1, by omega⟩)
          clear hf5 hr5
          go_wp2
          go_roundw
          case rel => exact ⟨t + 1, by go_num, by omega, HNX⟩
          case measure => simp [intOf]; omega
      · have e : t = n := by omega
        subst e
        have hr3 := HRS.out.rd.c3
        have q2 : ¬ (t : Int) < t := by omega
        have HEE : Hid (ReadRes w s.data.toList (.returned v) wr) := Lib.hid (HE.out _ _ HBL.out (by
          rw [HRN.out, List.drop_eq_nil_of_le (by rw [HN.out]; omega)]
          exact ⟨v, rfl, own_less HRS.out.row HST.out.2.1.size⟩))
        go_wp2
        go_ret
        exact HEE.out
end Go.Proofs.YtbpbiakdigjcnaaDoor
