/-
  StpRef5.
-/
import Derived.Test.YticcdighfojjjaaGreatDoorQStpRef4
namespace Go.Proofs.YticcdighfojjjaaGreatDoor
open Go.ChangeShapes Go.WideShapes Go.ChangeAt Go.RowKit

def glueP (A : List PairV) (r : List PairV × Int) : List PairV × Int := if r.2 = 0 then (A ++ r.1, 0) else ([], r.2)
theorem map_no {f t : ByteArray} {q : PairV} {r : List PairV} (A : List PairV) (h : eqB q.table t = false) : glueP A (mapP f t (q :: r)) = glueP (A ++ [q]) (mapP f t r) := by
  conv => lhs; unfold mapP
  rw [if_neg (by simp [h])]
  unfold glueP
  by_cases h2 : (mapP f t r).2 = 0
  · rw [if_pos h2, if_pos rfl, if_pos h2, List.append_assoc]; rfl
  · rw [if_neg h2, if_neg h2, if_neg h2]
theorem map_yes {f t : ByteArray} {q : PairV} {r : List PairV} (A : List PairV) (h : eqB q.table t = true) (hc : (callV f q.value).2 = 0) : glueP A (mapP f t (q :: r)) = glueP (A ++ [⟨q.table, q.key, (callV f q.value).1⟩]) (mapP f t r) := by
  conv => lhs; unfold mapP
  rw [if_pos h, if_pos hc]
  unfold glueP
  by_cases h2 : (mapP f t r).2 = 0
  · rw [if_pos h2, if_pos rfl, if_pos h2, List.append_assoc]; rfl
  · rw [if_neg h2, if_neg h2, if_neg h2]
theorem map_bad {f t : ByteArray} {q : PairV} {r : List PairV} (A : List PairV) (h : eqB q.table t = true) (hc : (callV f q.value).2 ≠ 0) : glueP A (mapP f t (q :: r)) = ([], (callV f q.value).2) := by
  conv => lhs; unfold mapP
  rw [if_pos h, if_neg hc]
  unfold glueP
  rw [if_neg hc]
theorem drop_pair {ps : List PairV} {s : Nat} (h : s < ps.length) : ps.drop s = ps[s] :: ps.drop (s + 1) := List.drop_eq_getElem_cons h
set_option maxHeartbeats 3200000 in
set_option maxRecDepth 100000 in
theorem smapped_any (ps : List PairV) (x : Option Addr) (n c : Nat) (s : StepV) (w : World) (h : PrsAt w x ps) (hn : ps.length = n) (hl : n ≤ 2147483647) (hok : PrsOk ps) :
    Calls Tryz.prog 71 #[.slice x n c, sV s] w (DoesRes w (x, ps) (mapP s.text s.table ps)) := by
  obtain ⟨kd, tb, ky, to, tx⟩ := s
  have HX := Lib.hid h
  have HN := Lib.hid hn
  have HOK := Lib.hid hok
  unfold sV
  dsimp only
  have HCA : Hid (∀ (W : World) (v : ByteArray), v.size ≤ 2147483647 → Calls Tryz.prog 15 #[.string tx, .string v] W fun e w' => e = .returned (.tuple #[.string (callV tx v).1, .int .i64 (callV tx v).2]) ∧ Below W.heap.size W w') := Lib.hid fun W v hv => scall_any tx v W (by unfold maxLen; omega)
  obtain ⟨R, hR⟩ : ∃ R, mapP tx tb ps = R := ⟨_, rfl⟩
  have HR : Hid (glueP [] (mapP tx tb (ps.drop 0)) = R) := Lib.hid (by
    rw [List.drop_zero, hR]
    have : R.2 ≠ 0 → R.1 = [] := by
      rw [← hR]
      intro hne
      cases ps with
      | nil => rfl
      | cons q r =>
        unfold mapP at hne ⊢
        split at hne
        · rename_i h1
          rw [if_pos h1]
          split at hne
          · rename_i h2
            rw [if_pos h2]
            split at hne
            · exact absurd rfl hne
            · rename_i h3; rw [if_neg h3]
          · rename_i h2; rw [if_neg h2]
        · rename_i h1
          rw [if_neg h1]
          split at hne
          · exact absurd rfl hne
          · rename_i h3; rw [if_neg h3]
    unfold glueP
    split
    · rename_i h0; rw [List.nil_append, ← h0]
    · rename_i h0; rw [← this h0])
  rw [hR]
  clear hR h hn hok
  go_enter Tryz.func71, Tryz.ntmps71
  go_wp2
  obtain ⟨S, hS⟩ : ∃ S, w.heap.size = S := ⟨_, rfl⟩
  obtain ⟨w1, hw1⟩ : ∃ w1, w.alloc (Obj.cells #[.int .i64 kd, .string tb, .string ky, .string to, .string tx] 35) = w1 := ⟨_, rfl⟩
  have HB1 : Hid (Below w.heap.size w w1) := Lib.hid (by rw [← hw1]; exact below_one _ _)
  have HS1 : Hid (w1.cell? ⟨S, 1, none⟩ = some (.string tb) ∧ w1.cell? ⟨S, 4, none⟩ = some (.string tx) ∧ S < w1.heap.size) := Lib.hid (by rw [← hw1, ← hS]; simp)
  rw [hw1, hS]
  clear hw1 hS
  go_loopw [6, 7] (fun vv i wr => ∃ (v : Value) (s : Nat) (A : List PairV), v = vv ∧ i = .int .i64 s ∧ s ≤ n ∧ A.length ≤ s ∧ Hid (OwnP w1 wr v A ∧ glueP A (mapP tx tb (ps.drop s)) = R)) (fun _ i _ => n - (intOf i).toNat)
  case atStart => exact ⟨_, 0, [], rfl, rfl, by omega, by simp, Lib.hid ⟨OwnP.nil_ w1, HR.out⟩⟩
  case round =>
    clear HR
    obtain ⟨v, s, A, rfl, rfl, hs, hA, HI⟩ := hrel
    have HO := Lib.hid HI.out.1
    have HSB : Hid (∀ W, Below w1.heap.size w1 W → W.cell? ⟨S, 1, none⟩ = some (.string tb) ∧ W.cell? ⟨S, 4, none⟩ = some (.string tx)) := Lib.hid fun W hb => ⟨(hb.cell (p := ⟨S, 1, none⟩) HS1.out.2.2).trans HS1.out.1, (hb.cell (p := ⟨S, 4, none⟩) HS1.out.2.2).trans HS1.out.2.1⟩
    by_cases hlt : s < n
    · have hsx : s < ps.length := by rw [HN.out]; exact hlt
      obtain ⟨b, off, hx, hbl, c0, c1, c2⟩ := (HX.out.below (HB1.out.trans (HO.out.below.mono HB1.out.size))) s hsx
      obtain ⟨z1, z2, z3⟩ := HOK.out _ (List.getElem_mem hsx)
      have hg := HI.out.2
      rw [drop_pair hsx] at hg
      have q1 : (0 : Int) ≤ s := by omega
      have q2 : (s : Int) < n := by omega
      generalize ps[s] = q at c0 c1 c2 z1 z2 z3 hg
      obtain ⟨qt, qk, qv⟩ := q
      dsimp only at c0 c1 c2 z1 z2 z3
      have HG := Lib.hid hg
      have HZ := Lib.hid z3
      clear hsx z1 z2 z3 hg HI
      subst hx
      cases h1 : (qt.toList == tb.toList) with
      | false =>
        have HG2 : Hid (glueP (A ++ [⟨qt, qk, qv⟩]) (mapP tx tb (ps.drop (s + 1))) = R) := Lib.hid (by rw [← map_no A (show eqB qt tb = false from h1)]; exact HG.out)
        have k1 : ∀ o : Obj, (wr.alloc o).cell? ⟨S, 1, none⟩ = some (.string tb) := fun o => (HSB.out _ (HO.out.after (below_one wr o)).below).1
        have HO2 : Hid (∀ o : Obj, OwnP w1 (wr.alloc o) v A) := Lib.hid fun o => HO.out.after (below_one wr o)
        clear HG
        go_wp2_with (at_builtin; refine appendP rfl _ _ rfl (HO2.out _) (by omega) rfl rfl (by simp) ?_; intro y cap w5 ho hg; have HO5 := Lib.hid ho; clear ho hg)
        go_roundw
        case rel => exact ⟨_, s + 1, A ++ [⟨qt, qk, qv⟩], rfl, by go_num, by omega, by simp; omega, Lib.hid ⟨by simpa using HO5.out, HG2.out⟩⟩
        case measure => simp [intOf]; omega
      | true =>
        obtain ⟨P, hP⟩ : ∃ P, wr.heap.size = P := ⟨_, rfl⟩
        have k1 : ∀ o : Obj, (wr.alloc o).cell? ⟨S, 1, none⟩ = some (.string tb) := fun o => (HSB.out _ (HO.out.after (below_one wr o)).below).1
        have k4 : ∀ o : Obj, (wr.alloc o).cell? ⟨S, 4, none⟩ = some (.string tx) := fun o => (HSB.out _ (HO.out.after (below_one wr o)).below).2
        have HCV : Hid (∀ W : World, Calls Tryz.prog 15 #[.string tx, .string qv] W fun e w' => e = .returned (.tuple #[.string (callV tx qv).1, .int .i64 (callV tx qv).2]) ∧ Below W.heap.size W w') := Lib.hid fun W => HCA.out W qv HZ.out
        have HPC : Hid (∀ W, Below (wr.alloc (Obj.cells #[.string qt, .string qk, .string qv] 51)).heap.size (wr.alloc (Obj.cells #[.string qt, .string qk, .string qv] 51)) W → W.cell? ⟨P, 0, none⟩ = some (.string qt) ∧ W.cell? ⟨P, 1, none⟩ = some (.string qk) ∧ W.cell? ⟨P, 2, none⟩ = some (.string qv) ∧ W.frozen? ⟨P, 2, none⟩ = false) := Lib.hid fun W hb => by
          subst hP
          refine ⟨?_, ?_, ?_, ?_⟩
          · rw [hb.cell (by simp)]; simp
          · rw [hb.cell (by simp)]; simp
          · rw [hb.cell (by simp)]; simp
          · rw [hb.frozen (by simp)]; simp
        have HOW : Hid (∀ W, Below (wr.alloc (Obj.cells #[.string qt, .string qk, .string qv] 51)).heap.size (wr.alloc (Obj.cells #[.string qt, .string qk, .string qv] 51)) W → ∀ u, OwnP w1 (W.setCell ⟨P, 2, none⟩ u) v A) := Lib.hid fun W hb u => HO.out.after (((below_one wr _).trans (hb.mono (below_one wr _).size)).setCell (p := ⟨P, 2, none⟩) (by show wr.heap.size ≤ P; omega) u)
        have HBE : Hid (∀ W, Below (wr.alloc (Obj.cells #[.string qt, .string qk, .string qv] 51)).heap.size (wr.alloc (Obj.cells #[.string qt, .string qk, .string qv] 51)) W → Below w.heap.size w W) := Lib.hid fun W hb => HB1.out.trans ((HO.out.after ((below_one wr _).trans (hb.mono (below_one wr _).size))).below.mono HB1.out.size)
        by_cases hc : (callV tx qv).2 = 0
        · have HG2 : Hid (glueP (A ++ [⟨qt, qk, (callV tx qv).1⟩]) (mapP tx tb (ps.drop (s + 1))) = R) := Lib.hid (by rw [← map_yes (q := ⟨qt, qk, qv⟩) A (show eqB qt tb = true from h1) hc]; exact HG.out)
          rw [hc] at HCV
          generalize (callV tx qv).1 = nv at HCV HG2
          clear HG hc HBE HCA
          go_wp2_with (first
            | (go_at_call 15; (with_reducible refine (HCV.out _).mono ?_); rintro e w2 ⟨rfl, hb2⟩; obtain ⟨e0, e1, e2, e3⟩ := HPC.out w2 hb2; have HO2 := Lib.hid (HOW.out w2 hb2); clear hb2)
            | (at_builtin; refine appendP rfl _ _ rfl (HO2.out _) (by omega) rfl rfl (by simp) ?_; intro y cap w5 ho hg; have HO5 := Lib.hid ho; clear ho hg))
          go_roundw
          case rel => exact ⟨_, s + 1, A ++ [⟨qt, qk, nv⟩], rfl, by go_num, by omega, by simp; omega, Lib.hid ⟨by simpa using HO5.out, HG2.out⟩⟩
          case measure => simp [intOf]; omega
        · have HG2 : Hid (([], (callV tx qv).2) = R) := Lib.hid (by rw [← map_bad (q := ⟨qt, qk, qv⟩) A (show eqB qt tb = true from h1) hc]; exact HG.out)
          have g5 : ((callV tx qv).2 != 0) = true := by simpa using hc
          generalize (callV tx qv).1 = nv at HCV
          generalize (callV tx qv).2 = ne at HCV HG2 g5
          clear HG hc HCA HOW HPC
          go_wp2_with (go_at_call 15; (with_reducible refine (HCV.out _).mono ?_); rintro e w2 ⟨rfl, hb2⟩; have HB2 := Lib.hid (HBE.out w2 hb2); clear hb2)
          go_ret2
          exact ⟨none, 0, by rw [← HG2.out]; rfl, by rw [← HG2.out]; exact PrsAt.nil_ _ _, by rw [← HG2.out]; exact Nat.le_refl _, HB2.out, .inr new_none⟩
    · have hte : s = n := by omega
      have HG2 : Hid ((A, 0) = R) := Lib.hid (by
        have := HI.out.2
        rw [List.drop_eq_nil_of_le (by have := HN.out; omega)] at this
        rw [← this]; unfold glueP mapP; simp)
      have q2 : ¬ (s : Int) < n := by omega
      have HBE := Lib.hid (HO.out.lift HB1.out)
      clear HI hte
      obtain ⟨x3, c3, hv, hp3, hc3⟩ := HO.out.some_
      have HP3 := Lib.hid hp3
      clear hp3
      subst hv
      go_wp2
      go_ret2
      exact ⟨x3, c3, by rw [← HG2.out]; rfl, by rw [← HG2.out]; exact HP3.out, by rw [← HG2.out]; exact hc3, HBE.out.below, .inr HBE.out.new_⟩
end Go.Proofs.YticcdighfojjjaaGreatDoor
