/-
  RefsSize, RefsMade, RefsExpK.
-/
import Derived.Test.YtopghlnoklajkaaGreatDoorQSetAll
import Derived.Test.YtopghlnoklajkaaGreatDoorQRefsApart0
namespace Go.Proofs.YtopghlnoklajkaaGreatDoor
open Go.ChangeShapes Go.WideShapes Go.ChangeAt Go.RowKit

structure SzStat (W : World) (X n pb pc g gc : Nat) (P : Nat → List PcB) : Prop where
 p : W.cell? ⟨X, 1, none⟩ = some (.slice (some ⟨pb, 0, none⟩) n pc)
 m : W.cell? ⟨X, 3, none⟩ = some (.slice (some ⟨g, 0, none⟩) n gc)
 ps : ∀ i, i < n → ∃ xb xc, W.cell? ⟨pb, i, none⟩ = some (.slice xb (P i).length xc) ∧ ∀ q (h : q < (P i).length), ∃ b, xb = some ⟨b, 0, none⟩ ∧ W.cell? ⟨b, q * 2, none⟩ = some (.string ⟨(P i)[q].1.toArray⟩) ∧ W.cell? ⟨b, q * 2 + 1, none⟩ = some (.bool (P i)[q].2)
def IntAt (W : World) (g n : Nat) (M : Nat → Int) : Prop := ∀ j, j < n → W.cell? ⟨g, j, none⟩ = some (.int .i64 (M j)) ∧ W.frozen? ⟨g, j, none⟩ = false
theorem IntAt.put {W : World} {g n : Nat} {M : Nat → Int} (h : IntAt W g n M) {k : Nat} (hk : k < n) (x : Int) : IntAt (W.setCell ⟨g, k, none⟩ (.int .i64 x)) g n (fun j => if j = k then x else M j) := fun j hj => by
 refine ⟨?_, by rw [World.frozen?_setCell]; exact (h j hj).2⟩
 by_cases e : j = k
 ·subst e
  rw [World.cell?_setCell_same _ _ _ (h j hj).1]; simp
 ·rw [World.cell?_setCell_other _ _ _ _ (fun h => e (by injection h with h1 h2; omega)), (h j hj).1]; simp [e]
def MemoOk (P : Nat → List PcB) (pl : List UInt8 → Option Nat) (n : Nat) (M : Nat → Int) : Prop := ∀ j, j < n → M j = -1 ∨ M j = (sizeB P pl n j : Nat)
theorem MemoOk.put {P : Nat → List PcB} {pl : List UInt8 → Option Nat} {n : Nat} {M : Nat → Int} (h : MemoOk P pl n M) (k : Nat) : MemoOk P pl n (fun j => if j = k then ((sizeB P pl n k : Nat) : Int) else M j) := fun j hj => by
 by_cases e : j = k
 ·subst e; right; simp
 ·simp only [e, if_false]; exact h j hj
def sumX (P : Nat → List PcB) (pl : List UInt8 → Option Nat) (n : Nat) (l : List PcB) : Nat := (l.flatMap (pieceX pl (expB P pl n))).length
theorem sumX_snoc (P : Nat → List PcB) (pl : List UInt8 → Option Nat) (n : Nat) (l : List PcB) (p : PcB) : sumX P pl n (l ++ [p]) = sumX P pl n l + (pieceX pl (expB P pl n) p).length := by unfold sumX; simp
theorem sumX_take (P : Nat → List PcB) (pl : List UInt8 → Option Nat) (n : Nat) (l : List PcB) (q : Nat) : sumX P pl n (l.take q) ≤ sumX P pl n l := by
 conv => rhs; rw [← List.take_append_drop q l]
 unfold sumX
 rw [List.flatMap_append, List.length_append]; omega
set_option maxHeartbeats 3200000 in
set_option maxRecDepth 100000 in
theorem ssize_any (X n pb pc g gc : Nat) (P : Nat → List PcB) (ns : List ByteArray) (w0 : World) (HS : Hid (∀ W, w0.grownBy W (some g) → SzStat W X n pb pc g gc P)) (hpz : ∀ i, i < n → (P i).length ≤ 4294967290) (HLZ : Hid (∀ i, i < n → ∀ p ∈ P i, p.1.length ≤ 4294967290))
  (HPL : Hid (∀ W, w0.grownBy W (some g) → ∀ s : ByteArray, Calls Tryz.prog 80 #[.pointer (some ⟨X, 0, none⟩), .string s] W fun e w' => e = .returned (.int .i64 (placeN ns s)) ∧ W = w'))
  (HG : Hid (∀ i, i < n → ∀ p ∈ P i, p.2 = true → ∃ k : Nat, k < n ∧ placeN ns ⟨p.1.toArray⟩ = (k : Int)))
  (HN1 : Hid (∀ i, i < n → ∀ k ∈ scP P (plO ns) i, k < n)) (HAC : Hid (∀ i, i < n → ¬ Lead (scP P (plO ns)) i i)) :
  ∀ (r at_ : Nat) (M : Nat → Int) (W : World), rank (scP P (plO ns)) n at_ = r → w0.grownBy W (some g) → IntAt W g n M → MemoOk P (plO ns) n M → at_ < n →
   Calls Tryz.prog 40 #[.pointer (some ⟨X, 0, none⟩), .int .i64 at_] W fun e w' => e = .returned (.int .i64 (sizeB P (plO ns) n at_ : Nat)) ∧ w0.grownBy w' (some g) ∧ ∃ M', IntAt w' g n M' ∧ MemoOk P (plO ns) n M' := by
 intro r
 induction r using Nat.strongRecOn with
 | ind r ih =>
  intro at_ M W hr hw hi hm hat
  have IH := Lib.hid ih
  have HR0 := Lib.hid hr
  have HAT := Lib.hid hat
  obtain ⟨Z, hZ⟩ : ∃ Z, sizeB P (plO ns) n at_ = Z := ⟨_, rfl⟩
  have HZB := Lib.hid hZ
  have hz2 : Z ≤ 201 := by rw [← hZ]; exact Nat.min_le_right _ _
  have st := HS.out W hw
  obtain ⟨st1, st2, _⟩ := st
  obtain ⟨i0, f0⟩ := hi at_ hat
  have q1 : (0 : Int) ≤ at_ := by omega
  have q2 : (at_ : Int) < n := by omega
  have hmm := hm at_ hat
  rw [hZ] at hmm ⊢
  have HW := Lib.hid hw
  have HI := Lib.hid hi
  have HM := Lib.hid hm
  rcases hmm with hma | hma
  ·rw [hma] at i0
   obtain ⟨L, hL⟩ : ∃ L, P at_ = L := ⟨_, rfl⟩
   have HL := Lib.hid hL
   have HPS : Hid (∀ W, w0.grownBy W (some g) → ∃ xb xc, W.cell? ⟨pb, at_, none⟩ = some (.slice xb L.length xc) ∧ ∀ q (h : q < L.length), ∃ b, xb = some ⟨b, 0, none⟩ ∧ W.cell? ⟨b, q * 2, none⟩ = some (.string ⟨L[q].1.toArray⟩) ∧ W.cell? ⟨b, q * 2 + 1, none⟩ = some (.bool L[q].2)) := Lib.hid fun W hw => by
    have := (HS.out W hw).ps at_ hat
    rw [hL] at this
    exact this
   have HGL : Hid (∀ p ∈ L, p.2 = true → ∃ k : Nat, k < n ∧ placeN ns ⟨p.1.toArray⟩ = (k : Int)) := Lib.hid (by rw [← hL]; exact HG.out at_ hat)
   have HLL : Hid (∀ p ∈ L, p.1.length ≤ 4294967290) := Lib.hid (by rw [← hL]; exact HLZ.out at_ hat)
   have HSZ : Hid (min (sumX P (plO ns) n L) 201 = Z) := Lib.hid (by
    rw [← hZ, ← hL]
    unfold sizeB sumX
    rw [expB_is HN1.out HAC.out hat])
   obtain ⟨z, hz⟩ : ∃ z, L.length = z := ⟨_, rfl⟩
   have HZ := Lib.hid hz
   have hzl : z ≤ 4294967290 := by rw [← hz, ← hL]; exact hpz at_ hat
   have H0 : Hid (w0.grownBy W (some g) ∧ IntAt W g n M ∧ MemoOk P (plO ns) n M ∧ min 0 201 = min (sumX P (plO ns) n (L.take 0)) 201) := Lib.hid ⟨hw, hi, hm, by simp [sumX]⟩
   clear ih hr hw hi hm hat hZ hpz hL hz HI HM HW hma f0
   go_enter Tryz.func40, Tryz.ntmps40
   go_wp2
   go_loopw [5, 6] (fun nn i wr => ∃ (q acc : Nat) (M1 : Nat → Int), nn = .int .i64 acc ∧ i = .int .i64 q ∧ q ≤ z ∧ acc ≤ 4294967800 ∧ Hid (w0.grownBy wr (some g) ∧ IntAt wr g n M1 ∧ MemoOk P (plO ns) n M1 ∧ min acc 201 = min (sumX P (plO ns) n (L.take q)) 201)) (fun _ i _ => z - (intOf i).toNat)
   case atStart => exact ⟨0, 0, M, rfl, rfl, by omega, by omega, H0⟩
   case round =>
    clear H0 i0 st1 st2
    obtain ⟨q, acc, M1, rfl, rfl, hq, ha, HR⟩ := hrel
    obtain ⟨st1, st2, _⟩ := HS.out _ HR.out.1
    obtain ⟨xb, xc, st4, hps⟩ := HPS.out _ HR.out.1
    rw [HZ.out] at st4
    by_cases hgo : q < z ∧ acc ≤ 200
    ·obtain ⟨hlt, hac⟩ := hgo
     have r1 : (0 : Int) ≤ q := by omega
     have r2 : (q : Int) < z := by omega
     have r5 : (acc : Int) ≤ 200 := by omega
     have hql : q < L.length := by rw [HZ.out]; exact hlt
     obtain ⟨b, hxe, c0, c1⟩ := hps q hql
     have hsum : sumX P (plO ns) n (L.take (q + 1)) = sumX P (plO ns) n (L.take q) + (pieceX (plO ns) (expB P (plO ns) n) L[q]).length := by rw [List.take_succ_eq_append_getElem hql, sumX_snoc]
     have hgl := HGL.out L[q] (List.getElem_mem hql)
     have hll := HLL.out L[q] (List.getElem_mem hql)
     have hmem : L[q] ∈ L := List.getElem_mem hql
     generalize L[q] = p at *
     obtain ⟨nm, rf⟩ := p
     simp only at c0 c1 hgl hll hsum
     obtain ⟨A, hA⟩ : ∃ A : ByteArray, (⟨nm.toArray⟩ : ByteArray) = A := ⟨_, rfl⟩
     have hAs : A.size = nm.length := by rw [← hA]; rfl
     rw [hA] at c0 hgl
     subst hxe
     have HSUM := Lib.hid hsum
     have HMEM := Lib.hid hmem
     have HGK := Lib.hid hgl
     have HAN := Lib.hid hA
     clear hps hsum hgl hmem hql hA
     cases rf with
     | false =>
      have hwr : IntKind.i64.wrap ((acc : Int) + (A.size : Int)) = (acc : Int) + (A.size : Int) := IntWalk.i64_in _ (by omega)
      have HR2 : Hid (w0.grownBy wr (some g) ∧ IntAt wr g n M1 ∧ MemoOk P (plO ns) n M1 ∧ min (acc + A.size) 201 = min (sumX P (plO ns) n (L.take (q + 1))) 201) := Lib.hid ⟨HR.out.1, HR.out.2.1, HR.out.2.2.1, by
       have h1 := HR.out.2.2.2
       have h2 := HSUM.out
       have h3 : (pieceX (plO ns) (expB P (plO ns) n) (nm, false)).length = nm.length := by simp [pieceX]
       rw [h3] at h2
       omega⟩
      go_wp2
      go_roundw
      case rel => exact ⟨q + 1, acc + A.size, M1, by go_num, by go_num, by omega, by omega, HR2⟩
      case measure => simp [intOf]; omega
     | true =>
      obtain ⟨k, hk, hpk⟩ := HGK.out rfl
      have HC := Lib.hid (HPL.out _ HR.out.1 A)
      rw [hpk] at HC
      have hpo : plO ns nm = some k := by unfold plO; rw [HAN.out, hpk, if_pos (by omega)]; simp
      have hsc : k ∈ scP P (plO ns) at_ := by
       unfold scP
       rw [HL.out]
       exact List.mem_filterMap.2 ⟨(nm, true), HMEM.out, by rw [if_pos rfl]; exact hpo⟩
      obtain ⟨s, hs⟩ : ∃ s, sizeB P (plO ns) n k = s := ⟨_, rfl⟩
      have hs2 : s ≤ 201 := by rw [← hs]; exact Nat.min_le_right _ _
      have hs3 : min (expB P (plO ns) n k).length 201 = s := hs
      have HIH : Hid (Calls Tryz.prog 40 #[.pointer (some ⟨X, 0, none⟩), .int .i64 k] wr fun e w' => e = .returned (.int .i64 (s : Nat)) ∧ w0.grownBy w' (some g) ∧ ∃ M', IntAt w' g n M' ∧ MemoOk P (plO ns) n M') := Lib.hid (by
       have := IH.out (rank (scP P (plO ns)) n k) (by rw [← HR0.out]; exact rank_down HN1.out HAC.out HAT.out hsc) k M1 wr rfl HR.out.1 HR.out.2.1 HR.out.2.2.1 hk
       rw [hs] at this
       exact this)
      have HNW : Hid (min (acc + s) 201 = min (sumX P (plO ns) n (L.take (q + 1))) 201) := Lib.hid (by
       have h1 := HR.out.2.2.2
       have h2 := HSUM.out
       have h3 : (pieceX (plO ns) (expB P (plO ns) n) (nm, true)).length = (expB P (plO ns) n k).length := by simp [pieceX, hpo]
       rw [h3] at h2
       omega)
      have hwr : IntKind.i64.wrap ((acc : Int) + (s : Int)) = (acc : Int) + (s : Int) := IntWalk.i64_in _ (by omega)
      have r3 : (0 : Int) ≤ k := by omega
      clear hpo hpk HGK hsc hs hs3
      go_wp2_with fail
      refine HC.out.mono ?_
      rintro e w2 ⟨rfl, rfl⟩
      go_wp2_with fail
      refine HIH.out.mono ?_
      rintro e w3 ⟨rfl, hg3, M3, hi3, hm3⟩
      have HR3 := Lib.hid (And.intro hg3 (And.intro hi3 (And.intro hm3 HNW.out)))
      clear hg3 hi3 hm3
      go_wp2
      go_roundw
      case rel => exact ⟨q + 1, acc + s, M3, by go_num, by go_num, by omega, by omega, HR3⟩
      case measure => simp [intOf]; omega
    ·have hend : min acc 201 = Z := by
      have h1 := HR.out.2.2.2
      have h2 := HSZ.out
      have h3 := sumX_take P (plO ns) n L q
      by_cases hlt : q < z
      ·have : 200 < acc := by omega
       omega
      ·have : L.take q = L := List.take_of_length_le (by rw [HZ.out]; omega)
       rw [this] at h1
       omega
     obtain ⟨i1, f1⟩ := HR.out.2.1 at_ HAT.out
     have hmi : min (acc : Int) 201 = (Z : Int) := by omega
     have HFIN : Hid (w0.grownBy (wr.setCell ⟨g, at_, none⟩ (.int .i64 (Z : Int))) (some g) ∧ IntAt (wr.setCell ⟨g, at_, none⟩ (.int .i64 (Z : Int))) g n (fun j => if j = at_ then (Z : Int) else M1 j) ∧ MemoOk P (plO ns) n (fun j => if j = at_ then (Z : Int) else M1 j)) := Lib.hid
      ⟨HR.out.1.trans (setGrown wr g at_ _), HR.out.2.1.put HAT.out _, by have := HR.out.2.2.1.put at_; rw [HZB.out] at this; exact this⟩
     have st2' := (HS.out _ HFIN.out.1).m
     clear hend hps
     by_cases hlt : q < z
     ·have r2 : (q : Int) < z := by omega
      have r5 : ¬ (acc : Int) ≤ 200 := by omega
      clear hgo
      go_wp2
      go_ret
      exact ⟨rfl, HFIN.out.1, _, HFIN.out.2⟩
     ·have r2 : ¬ (q : Int) < z := by omega
      clear hgo
      go_wp2
      go_ret
      exact ⟨rfl, HFIN.out.1, _, HFIN.out.2⟩
  ·rw [hma] at i0
   have q3 : (0 : Int) ≤ Z := by omega
   clear ih hr hw hi hm hat hZ hpz hma f0
   go_enter Tryz.func40, Tryz.ntmps40
   go_wp2
   go_ret
   exact ⟨rfl, HW.out, M, HI.out, HM.out⟩
end Go.Proofs.YtopghlnoklajkaaGreatDoor

namespace Go.Proofs.YtopghlnoklajkaaGreatDoor
open Go.ChangeShapes Go.WideShapes Go.ChangeAt Go.RowKit

structure Grow2 (a b : Nat) (w w' : World) : Prop where
 os : w'.os = w.os
 tape : w'.tape = w.tape
 output : w'.output = w.output
 size : w.heap.size ≤ w'.heap.size
 block : ∀ k, k < w.heap.size → k ≠ a → k ≠ b → w'.heap[k]? = w.heap[k]?
theorem Grow2.trans {a b : Nat} {w w' w2 : World} (h : Grow2 a b w w') (h2 : Grow2 a b w' w2) : Grow2 a b w w2 :=
 ⟨h2.os.trans h.os, h2.tape.trans h.tape, h2.output.trans h.output, Nat.le_trans h.size h2.size, fun k hk n1 n2 => (h2.block k (Nat.lt_of_lt_of_le hk h.size) n1 n2).trans (h.block k hk n1 n2)⟩
theorem Grow2.set1 (a b : Nat) (w : World) (i : Nat) (u : Value) : Grow2 a b w (w.setCell ⟨a, i, none⟩ u) := ⟨rfl, rfl, rfl, by simp [World.setCell], fun k _ n1 _ => Below.heap_setCell _ _ _ _ n1⟩
theorem Grow2.set2 (a b : Nat) (w : World) (i : Nat) (u : Value) : Grow2 a b w (w.setCell ⟨b, i, none⟩ u) := ⟨rfl, rfl, rfl, by simp [World.setCell], fun k _ _ n2 => Below.heap_setCell _ _ _ _ n2⟩
def sB (l : List UInt8) : ByteArray := ⟨l.toArray⟩
theorem sB_app (a b : List UInt8) : sB a ++ sB b = sB (a ++ b) := by
 apply ByteArray.ext
 simp [sB]
theorem sB_size (a : List UInt8) : (sB a).size = a.length := rfl
structure MdStat (W : World) (X n sb sc pb pc tb tc db dc : Nat) (K : Nat → Int) (P : Nat → List PcB) : Prop where
 s : W.cell? ⟨X, 0, none⟩ = some (.slice (some ⟨sb, 0, none⟩) n sc)
 k : ∀ i, i < n → W.cell? ⟨sb, i * 6 + 1, none⟩ = some (.int .i64 (K i))
 p : W.cell? ⟨X, 1, none⟩ = some (.slice (some ⟨pb, 0, none⟩) n pc)
 t : W.cell? ⟨X, 4, none⟩ = some (.slice (some ⟨tb, 0, none⟩) n tc)
 d : W.cell? ⟨X, 5, none⟩ = some (.slice (some ⟨db, 0, none⟩) n dc)
 ps : ∀ i, i < n → ∃ xb xc, W.cell? ⟨pb, i, none⟩ = some (.slice xb (P i).length xc) ∧ ∀ q (h : q < (P i).length), ∃ b, xb = some ⟨b, 0, none⟩ ∧ W.cell? ⟨b, q * 2, none⟩ = some (.string (sB (P i)[q].1)) ∧ W.cell? ⟨b, q * 2 + 1, none⟩ = some (.bool (P i)[q].2)
def TxtAt (W : World) (g n : Nat) (T : Nat → ByteArray) : Prop := ∀ j, j < n → W.cell? ⟨g, j, none⟩ = some (.string (T j)) ∧ W.frozen? ⟨g, j, none⟩ = false
theorem TxtAt.put {W : World} {g n : Nat} {T : Nat → ByteArray} (h : TxtAt W g n T) {k : Nat} (hk : k < n) (x : ByteArray) : TxtAt (W.setCell ⟨g, k, none⟩ (.string x)) g n (fun j => if j = k then x else T j) := fun j hj => by
 refine ⟨?_, by rw [World.frozen?_setCell]; exact (h j hj).2⟩
 by_cases e : j = k
 ·subst e
  rw [World.cell?_setCell_same _ _ _ (h j hj).1]; simp
 ·rw [World.cell?_setCell_other _ _ _ _ (fun h => e (by injection h with h1 h2; omega)), (h j hj).1]; simp [e]
theorem TxtAt.apart {W : World} {g b n : Nat} {T : Nat → ByteArray} (h : TxtAt W g n T) (hne : b ≠ g) (k : Nat) (u : Value) : TxtAt (W.setCell ⟨b, k, none⟩ u) g n T := fun j hj => by
 refine ⟨?_, by rw [World.frozen?_setCell]; exact (h j hj).2⟩
 rw [World.cell?_setCell_other _ _ _ _ (fun h => hne (by injection h))]; exact (h j hj).1
theorem BoolAt.apart {W : World} {g b n : Nat} {V : Nat → Bool} (h : BoolAt W g n V) (hne : b ≠ g) (k : Nat) (u : Value) : BoolAt (W.setCell ⟨b, k, none⟩ u) g n V := fun j hj => by
 refine ⟨?_, by rw [World.frozen?_setCell]; exact (h j hj).2⟩
 rw [World.cell?_setCell_other _ _ _ _ (fun h => hne (by injection h))]; exact (h j hj).1
def MadeOk (P : Nat → List PcB) (pl : List UInt8 → Option Nat) (n : Nat) (D : Nat → Bool) (T : Nat → ByteArray) : Prop := ∀ j, j < n → D j = true → T j = sB (expB P pl n j)
theorem MadeOk.put {P : Nat → List PcB} {pl : List UInt8 → Option Nat} {n : Nat} {D : Nat → Bool} {T : Nat → ByteArray} (h : MadeOk P pl n D T) (k : Nat) : MadeOk P pl n (fun j => D j || decide (j = k)) (fun j => if j = k then sB (expB P pl n k) else T j) := fun j hj hd => by
 by_cases e : j = k
 ·subst e; simp
 ·simp only [e, if_false]
  exact h j hj (by simpa [e] using hd)
def exT (P : Nat → List PcB) (pl : List UInt8 → Option Nat) (n : Nat) (l : List PcB) : List UInt8 := l.flatMap (pieceX pl (expB P pl n))
theorem exT_snoc (P : Nat → List PcB) (pl : List UInt8 → Option Nat) (n : Nat) (l : List PcB) (p : PcB) : exT P pl n (l ++ [p]) = exT P pl n l ++ pieceX pl (expB P pl n) p := by unfold exT; simp
theorem exT_take (P : Nat → List PcB) (pl : List UInt8 → Option Nat) (n : Nat) (l : List PcB) (q : Nat) : (exT P pl n (l.take q)).length ≤ (exT P pl n l).length := sumX_take P pl n l q
set_option maxHeartbeats 3200000 in
set_option maxRecDepth 100000 in
theorem smade_any (X n sb sc pb pc tb tc db dc : Nat) (K : Nat → Int) (P : Nat → List PcB) (ns : List ByteArray) (w0 : World) (HS : Hid (∀ W, Grow2 tb db w0 W → MdStat W X n sb sc pb pc tb tc db dc K P)) (hbd : tb ≠ db) (hpz : ∀ i, i < n → (P i).length ≤ 4294967290)
  (HPL : Hid (∀ W, Grow2 tb db w0 W → ∀ s : ByteArray, Calls Tryz.prog 80 #[.pointer (some ⟨X, 0, none⟩), .string s] W fun e w' => e = .returned (.int .i64 (placeN ns s)) ∧ W = w'))
  (HG : Hid (∀ i, i < n → ∀ p ∈ P i, p.2 = true → ∃ k : Nat, k < n ∧ placeN ns ⟨p.1.toArray⟩ = (k : Int)))
  (HPR : Hid (∀ i, i < n → K i ≠ 5 → ∃ s, P i = [(s, false)])) (HSM : Hid (∀ i, i < n → K i = 5 → (expB P (plO ns) n i).length ≤ 200))
  (HN1 : Hid (∀ i, i < n → ∀ k ∈ scP P (plO ns) i, k < n)) (HAC : Hid (∀ i, i < n → ¬ Lead (scP P (plO ns)) i i)) :
  ∀ (r at_ : Nat) (D : Nat → Bool) (T : Nat → ByteArray) (W : World), rank (scP P (plO ns)) n at_ = r → Grow2 tb db w0 W → TxtAt W tb n T → BoolAt W db n D → MadeOk P (plO ns) n D T → at_ < n →
   Calls Tryz.prog 41 #[.pointer (some ⟨X, 0, none⟩), .int .i64 at_] W fun e w' => e = .returned (.string (sB (expB P (plO ns) n at_))) ∧ Grow2 tb db w0 w' ∧ ∃ D' T', TxtAt w' tb n T' ∧ BoolAt w' db n D' ∧ MadeOk P (plO ns) n D' T' := by
 intro r
 induction r using Nat.strongRecOn with
 | ind r ih =>
  intro at_ D T W hr hw hti hdi hm hat
  have IH := Lib.hid ih
  have HR0 := Lib.hid hr
  have HAT := Lib.hid hat
  obtain ⟨st0, stk, st1, st2, st3, stp⟩ := HS.out W hw
  have k0 := stk at_ hat
  obtain ⟨t0, _⟩ := hti at_ hat
  obtain ⟨d0, _⟩ := hdi at_ hat
  have q1 : (0 : Int) ≤ at_ := by omega
  have q2 : (at_ : Int) < n := by omega
  have HW := Lib.hid hw
  have HRES := Lib.hid (And.intro hti (And.intro hdi hm))
  have hex := expB_is HN1.out HAC.out hat
  by_cases hk5 : K at_ = 5
  ·rw [hk5] at k0
   cases hda : D at_ with
   | true =>
    rw [hda] at d0
    rw [hm at_ hat hda] at t0
    clear ih hr hw hti hdi hm hat hpz stk stp hex hda
    go_enter Tryz.func41, Tryz.ntmps41
    go_wp2
    go_ret
    exact ⟨rfl, HW.out, D, T, HRES.out⟩
   | false =>
    rw [hda] at d0
    obtain ⟨L, hL⟩ : ∃ L, P at_ = L := ⟨_, rfl⟩
    have HL := Lib.hid hL
    have HPS : Hid (∀ W, Grow2 tb db w0 W → ∃ xb xc, W.cell? ⟨pb, at_, none⟩ = some (.slice xb L.length xc) ∧ ∀ q (h : q < L.length), ∃ b, xb = some ⟨b, 0, none⟩ ∧ W.cell? ⟨b, q * 2, none⟩ = some (.string (sB L[q].1)) ∧ W.cell? ⟨b, q * 2 + 1, none⟩ = some (.bool L[q].2)) := Lib.hid fun W hw => by
     have := (HS.out W hw).ps at_ hat
     rw [hL] at this
     exact this
    have HGL : Hid (∀ p ∈ L, p.2 = true → ∃ k : Nat, k < n ∧ placeN ns ⟨p.1.toArray⟩ = (k : Int)) := Lib.hid (by rw [← hL]; exact HG.out at_ hat)
    have HALL : Hid (exT P (plO ns) n L = expB P (plO ns) n at_) := Lib.hid (by rw [hex, ← hL]; rfl)
    have HLEN : Hid ((exT P (plO ns) n L).length ≤ 200) := Lib.hid (by rw [HALL.out]; exact HSM.out at_ hat hk5)
    obtain ⟨E, hE⟩ : ∃ E, expB P (plO ns) n at_ = E := ⟨_, rfl⟩
    have HE := Lib.hid hE
    rw [hE]
    obtain ⟨z, hz⟩ : ∃ z, L.length = z := ⟨_, rfl⟩
    have HZ := Lib.hid hz
    have hzl : z ≤ 4294967290 := by rw [← hz, ← hL]; exact hpz at_ hat
    have H0 : Hid (Grow2 tb db w0 W ∧ TxtAt W tb n T ∧ BoolAt W db n D ∧ MadeOk P (plO ns) n D T) := Lib.hid ⟨hw, hti, hdi, hm⟩
    have hs0 : sB (exT P (plO ns) n (L.take 0)) = ⟨#[]⟩ := rfl
    have HS0 := Lib.hid hs0
    clear ih hr hw hti hdi hm hat hpz stk stp hex hda hL hz HW HRES hE t0 hs0
    go_enter Tryz.func41, Tryz.ntmps41
    go_wp2
    go_loopw [5, 6] (fun nn i wr => ∃ (q : Nat) (S : ByteArray) (D1 : Nat → Bool) (T1 : Nat → ByteArray), nn = .string S ∧ i = .int .i64 q ∧ q ≤ z ∧ S.size ≤ 200 ∧ Hid (S = sB (exT P (plO ns) n (L.take q))) ∧ Hid (Grow2 tb db w0 wr ∧ TxtAt wr tb n T1 ∧ BoolAt wr db n D1 ∧ MadeOk P (plO ns) n D1 T1)) (fun _ i _ => z - (intOf i).toNat)
    case atStart => exact ⟨0, ⟨#[]⟩, D, T, rfl, rfl, by omega, by decide, Lib.hid HS0.out.symm, H0⟩
    case round =>
     clear H0 k0 d0 st0 st1 st2 st3
     obtain ⟨q, S, D1, T1, rfl, rfl, hq, hsz, HSQ, HR⟩ := hrel
     obtain ⟨st0, _, st1, st2, st3, _⟩ := HS.out _ HR.out.1
     obtain ⟨xb, xc, st4, hps⟩ := HPS.out _ HR.out.1
     rw [HZ.out] at st4
     by_cases hlt : q < z
     ·have r1 : (0 : Int) ≤ q := by omega
      have r2 : (q : Int) < z := by omega
      have hql : q < L.length := by rw [HZ.out]; exact hlt
      obtain ⟨b, hxe, c0, c1⟩ := hps q hql
      have hsum : exT P (plO ns) n (L.take (q + 1)) = exT P (plO ns) n (L.take q) ++ pieceX (plO ns) (expB P (plO ns) n) L[q] := by rw [List.take_succ_eq_append_getElem hql, exT_snoc]
      have hle := exT_take P (plO ns) n L (q + 1)
      have hgl := HGL.out L[q] (List.getElem_mem hql)
      have hmem : L[q] ∈ L := List.getElem_mem hql
      have hLN := HLEN.out
      generalize L[q] = p at *
      obtain ⟨nm, rf⟩ := p
      simp only at c0 c1 hgl hsum
      obtain ⟨A, hA⟩ : ∃ A : ByteArray, sB nm = A := ⟨_, rfl⟩
      rw [hA] at c0
      subst hxe
      have HSUM := Lib.hid hsum
      have HMEM := Lib.hid hmem
      have HGK := Lib.hid hgl
      have HAN := Lib.hid hA
      have HLE := Lib.hid (Nat.le_trans hle hLN)
      clear hps hsum hgl hmem hql hA hle hLN
      cases rf with
      | false =>
       have HS2 : Hid (S ++ A = sB (exT P (plO ns) n (L.take (q + 1)))) := Lib.hid (by rw [HSUM.out, HSQ.out, ← HAN.out, sB_app]; rfl)
       have hsz2 : S.size + A.size ≤ 200 := by
        have := congrArg ByteArray.size HS2.out
        rw [ByteArray.size_append, sB_size] at this
        have := HLE.out
        omega
       have hcz : ¬ 9223372036854775807 < S.size + A.size := by omega
       go_wp2
       go_roundw
       case rel => exact ⟨q + 1, S ++ A, D1, T1, by first | rfl | simp, by go_num, by omega, by rw [ByteArray.size_append]; exact hsz2, HS2, HR⟩
       case measure => simp [intOf]; omega
      | true =>
       obtain ⟨k, hk, hpk⟩ := HGK.out rfl
       have HC := Lib.hid (HPL.out _ HR.out.1 A)
       rw [← HAN.out] at HC
       have hpk' : placeN ns (sB nm) = (k : Int) := hpk
       rw [hpk', HAN.out] at HC
       have hpo : plO ns nm = some k := by unfold plO; rw [hpk, if_pos (by omega)]; simp
       have hsc : k ∈ scP P (plO ns) at_ := by
        unfold scP
        rw [HL.out]
        exact List.mem_filterMap.2 ⟨(nm, true), HMEM.out, by rw [if_pos rfl]; exact hpo⟩
       obtain ⟨C, hC⟩ : ∃ C : ByteArray, sB (expB P (plO ns) n k) = C := ⟨_, rfl⟩
       have HIH : Hid (Calls Tryz.prog 41 #[.pointer (some ⟨X, 0, none⟩), .int .i64 k] wr fun e w' => e = .returned (.string C) ∧ Grow2 tb db w0 w' ∧ ∃ D' T', TxtAt w' tb n T' ∧ BoolAt w' db n D' ∧ MadeOk P (plO ns) n D' T') := Lib.hid (by
        have := IH.out (rank (scP P (plO ns)) n k) (by rw [← HR0.out]; exact rank_down HN1.out HAC.out HAT.out hsc) k D1 T1 wr rfl HR.out.1 HR.out.2.1 HR.out.2.2.1 HR.out.2.2.2 hk
        rw [hC] at this
        exact this)
       have HS2 : Hid (S ++ C = sB (exT P (plO ns) n (L.take (q + 1)))) := Lib.hid (by
        have h3 : pieceX (plO ns) (expB P (plO ns) n) (nm, true) = expB P (plO ns) n k := by simp [pieceX, hpo]
        rw [HSUM.out, HSQ.out, ← hC, sB_app, h3])
       have hsz2 : S.size + C.size ≤ 200 := by
        have := congrArg ByteArray.size HS2.out
        rw [ByteArray.size_append, sB_size] at this
        have := HLE.out
        omega
       have hcz : ¬ 9223372036854775807 < S.size + C.size := by omega
       have r3 : (0 : Int) ≤ k := by omega
       clear hpo hpk hpk' HGK hsc hC
       go_wp2_with fail
       refine HC.out.mono ?_
       rintro e w2 ⟨rfl, rfl⟩
       go_wp2_with fail
       refine HIH.out.mono ?_
       rintro e w3 ⟨rfl, hg3, D3, T3, ht3, hd3, hm3⟩
       have HR3 := Lib.hid (And.intro hg3 (And.intro ht3 (And.intro hd3 hm3)))
       clear hg3 ht3 hd3 hm3
       go_wp2
       go_roundw
       case rel => exact ⟨q + 1, S ++ C, D3, T3, by first | rfl | simp, by go_num, by omega, by rw [ByteArray.size_append]; exact hsz2, HS2, HR3⟩
       case measure => simp [intOf]; omega
     ·have r2 : ¬ (q : Int) < z := by omega
      have hSE : S = sB E := by rw [HSQ.out, List.take_of_length_le (by rw [HZ.out]; omega), HALL.out, HE.out]
      subst hSE
      obtain ⟨i1, f1⟩ := HR.out.2.1 at_ HAT.out
      obtain ⟨i2, f2⟩ := HR.out.2.2.1 at_ HAT.out
      have HFIN : Hid (Grow2 tb db w0 ((wr.setCell ⟨tb, at_, none⟩ (.string (sB E))).setCell ⟨db, at_, none⟩ (.bool true)) ∧ TxtAt ((wr.setCell ⟨tb, at_, none⟩ (.string (sB E))).setCell ⟨db, at_, none⟩ (.bool true)) tb n (fun j => if j = at_ then sB E else T1 j) ∧ BoolAt ((wr.setCell ⟨tb, at_, none⟩ (.string (sB E))).setCell ⟨db, at_, none⟩ (.bool true)) db n (fun j => D1 j || decide (j = at_)) ∧ MadeOk P (plO ns) n (fun j => D1 j || decide (j = at_)) (fun j => if j = at_ then sB E else T1 j)) := Lib.hid
       ⟨(HR.out.1.trans (Grow2.set1 tb db wr at_ _)).trans (Grow2.set2 tb db _ at_ _), (HR.out.2.1.put HAT.out (sB E)).apart (fun e => hbd e.symm) _ _, (HR.out.2.2.1.apart hbd _ _).put HAT.out, by
        have := HR.out.2.2.2.put at_
        rw [HE.out] at this
        exact this⟩
      have stA := HS.out _ (HR.out.1.trans (Grow2.set1 tb db wr at_ (.string (sB E))))
      have stB := HS.out _ HFIN.out.1
      have u5 := stA.d
      have v4 := stB.t
      have x2 := (HR.out.2.2.1.apart hbd at_ (.string (sB E))) at_ HAT.out
      obtain ⟨x2a, x2b⟩ := x2
      have y1 := (HFIN.out.2.1 at_ HAT.out).1
      simp only [if_true] at y1
      clear hps stA stB
      go_wp2
      go_ret
      exact ⟨rfl, HFIN.out.1, _, _, HFIN.out.2⟩
  ·obtain ⟨sx, hsx⟩ := HPR.out at_ hat hk5
   obtain ⟨xb, xc, p0, hps⟩ := stp at_ hat
   rw [hsx] at p0 hps hex
   obtain ⟨b, hxe, c0, _⟩ := hps 0 (by simp)
   have he : expB P (plO ns) n at_ = sx := by rw [hex]; simp [pieceX]
   rw [he]
   simp only [List.length_singleton, List.getElem_cons_zero, Nat.zero_mul] at p0 c0
   subst hxe
   have hk5' : ¬ (K at_ = 5) := hk5
   clear ih hr hw hti hdi hm hat hpz stk stp hex hsx hps he t0 d0
   go_enter Tryz.func41, Tryz.ntmps41
   go_wp2
   go_ret
   exact ⟨rfl, HW.out, D, T, HRES.out⟩
end Go.Proofs.YtopghlnoklajkaaGreatDoor

namespace Go.Proofs.YtopghlnoklajkaaGreatDoor
open Go.ChangeShapes Go.WideShapes Go.ChangeAt Go.RowKit

theorem rowS_cells {B : Nat} {w : World} {v : Value} {ms : List SetM} (h : w.ownsRow B 50 6 v ms.length (sFlat ms)) {k : Nat} (hk : k < ms.length) : ∃ b c, v = .slice (some ⟨b, 0, none⟩) ms.length c ∧ b < w.heap.size ∧ ∀ j, j < 6 → w.cell? ⟨b, k * 6 + j, none⟩ = (sCells ms[k])[j]? := by
 have hs := sFlat_len ms
 rcases h.2 with ⟨h1, h2⟩ | ⟨g, cap, cur, h1, _, hg, _⟩
 ·omega
 ·have hv := h
  rw [h1] at hv
  refine ⟨g, cap, h1, heap_lt hg, fun j hj => ?_⟩
  rw [hv.cellAt (k * 6 + j) (by omega), sFlat_at ms k hk j hj]
set_option maxHeartbeats 1600000 in
set_option maxRecDepth 100000 in
theorem wplaceR_any (B X : Nat) (w : World) (lv pv ev mv tv dv : Value) (ms : List SetM) (s : ByteArray) (hX : WObj w X lv pv ev mv tv dv) (h : w.ownsRow B 50 6 lv ms.length (sFlat ms)) (hn : ms.length ≤ 4294967280) :
  Calls Tryz.prog 80 #[.pointer (some ⟨X, 0, none⟩), .string s] w fun e w' => e = .returned (.int .i64 (placeN (namesM ms) s)) ∧ w = w' := by
 obtain ⟨R, hR⟩ : ∃ R, placeN (namesM ms) s = R := ⟨_, rfl⟩
 have HR : Hid (placeGo s ((namesM ms).drop 0) 0 = R) := Lib.hid hR
 rw [hR]
 obtain ⟨x0, c0', hlv⟩ := own_form h
 obtain ⟨n, hn'⟩ : ∃ n, ms.length = n := ⟨_, rfl⟩
 have HN := Lib.hid hn'
 have H := Lib.hid h
 obtain ⟨x0', _⟩ := hX.cells
 rw [hn'] at hlv hn
 subst hlv
 clear hX h hn' hR
 go_enter Tryz.func80, Tryz.ntmps80
 go_wp2
 go_loopw [5] (fun i wr => ∃ k : Nat, i = .int .i64 k ∧ k ≤ n ∧ Hid (placeGo s ((namesM ms).drop k) k = R) ∧ w = wr) (fun i _ => n - (intOf i).toNat)
 case atStart => exact ⟨0, rfl, by omega, HR, rfl⟩
 case round =>
  clear HR
  obtain ⟨k, rfl, hk, HR, rfl⟩ := hrel
  by_cases hlt : k < n
  ·have q1 : (0 : Int) ≤ k := by omega
   have q2 : (k : Int) < n := by omega
   have hkm : k < ms.length := by rw [HN.out]; exact hlt
   obtain ⟨b, c, hbe, _, hcs⟩ := rowS_cells H.out hkm
   injection hbe with hbe hx1 hx2
   have c0 := hcs 0 (by decide)
   rw [Nat.add_zero] at c0
   have hRR := HR.out
   rw [placeGo_drop s (namesM ms) k (by unfold namesM; rw [List.length_map]; exact hkm)] at hRR
   have hnm : (namesM ms)[k]'(by unfold namesM; rw [List.length_map]; exact hkm) = ms[k].x.name := by simp [namesM]
   rw [hnm] at hRR
   replace c0 : w.cell? ⟨b, k * 6, none⟩ = some (.string ms[k].x.name) := c0
   generalize ms[k].x.name = nm at c0 hRR
   have HRR := Lib.hid hRR
   subst hbe
   clear hcs hnm hRR hx1 hx2 hkm HR
   by_cases he : (nm.toList == s.toList) = true
   ·have hRk : Hid ((k : Int) = R) := Lib.hid (by have := HRR.out; rwa [if_pos he] at this)
    clear HRR
    go_wp2
    go_ret
    exact ⟨by rw [← hRk.out]; rfl, rfl⟩
   ·have he2 : (nm.toList == s.toList) = false := by simpa using he
    have HR2 : Hid (placeGo s ((namesM ms).drop (k + 1)) (k + 1) = R) := Lib.hid (by have := HRR.out; rwa [if_neg he] at this)
    clear HRR he
    go_wp2
    go_roundw
    case rel => exact ⟨k + 1, by go_num, by omega, HR2, by first | rfl | trivial⟩
    case measure => simp [intOf]; omega
  ·obtain rfl : k = n := by omega
   have q2 : ¬ (k : Int) < k := by omega
   have HR2 : Hid ((-1 : Int) = R) := Lib.hid (by
    have := HR.out
    rwa [List.drop_eq_nil_of_le (by unfold namesM; rw [List.length_map, HN.out]; exact Nat.le_refl _), placeGo] at this)
   clear HR
   go_wp2
   go_ret
   exact ⟨by rw [← HR2.out]; rfl, rfl⟩
theorem run_madeBL (w : World) (n : Nat) (hn : n ≤ 1000000) :
  (Instr.makeSlice 53 (.int .i64 (n : Int)) (.int .i64 (n : Int))).run Tryz.prog w = .ok (.slice (some ⟨w.heap.size, 0, none⟩) n n) (w.alloc (Obj.cells (List.replicate n (Value.bool false)).toArray 4)) := by
 obtain ⟨i0, hi, hz0, hz1, hz2⟩ := info_parts infoBl
 have := run_make (P := Tryz.prog) w 53 4 i0 _ Tryz.underlying53 hi hz0 .i64 .i64 (n : Int) (n : Int) (by omega) (by omega) (by rw [hz2]; omega) (by omega)
 rw [hz1, Int.toNat_natCast] at this
 have e : madeCells #[Value.bool false] (n * 1) = (List.replicate n (Value.bool false)).toArray := by
  rw [← Array.toList_inj, toList_madeCells_one, Nat.mul_one]
 exact this.trans (by rw [show madeCells (Value.cells (.bool false)) (n * 1) = madeCells #[Value.bool false] (n * 1) from rfl, e])
structure WkAt (w1 : World) (X n : Nat) (lv : Value) (P : Nat → List PcB) (wr : World) (kp ke km kt kd : Nat) (pv ev mv tv dv : Value) (ps : List Value) (gl : List Nat) : Prop where
 below : Below X w1 wr
 obj : WObj wr X lv pv ev mv tv dv
 free : ∀ i, wr.frozen? ⟨X, i, none⟩ = false
 prow : wr.ownsRow (X + 1) 67 1 pv kp ps
 erow : wr.ownsRow (X + 1) 53 1 ev ke (gl.map fun g => Value.slice (some ⟨g, 0, none⟩) n n)
 mrow : wr.ownsRow (X + 1) 3 1 mv km (List.replicate km (.int .i64 (-1)))
 trow : wr.ownsRow (X + 1) 9 1 tv kt (List.replicate kt (.string ⟨#[]⟩))
 drow : wr.ownsRow (X + 1) 4 1 dv kd (List.replicate kd (.bool false))
 pcs : ∀ i, i < kp → ∃ v, ps[i]? = some v ∧ wr.ownsRow (X + 1) 71 2 v (P i).length (pFlat (P i))
 gat : ∀ g ∈ gl, X < g ∧ wr.heap[g]? = some (Obj.cells (List.replicate n (Value.bool false)).toArray 4 (0, 0))
 gne : gl.Nodup
 gd : ∀ g ∈ gl, dv.ownBlock ≠ some g
section
variable {w1 wr w' : World} {X n kp ke km kt kd : Nat} {lv pv ev mv tv dv v' : Value} {P : Nat → List PcB} {ps : List Value} {gl : List Nat} {o : Obj}
theorem WkAt.lt (h : WkAt w1 X n lv P wr kp ke km kt kd pv ev mv tv dv ps gl) : X < wr.heap.size := by
 obtain ⟨fr, ho⟩ := h.obj
 exact heap_ltF ho
theorem WkAt.to (h : WkAt w1 X n lv P wr kp ke km kt kd pv ev mv tv dv ps gl) (hb : Below wr.heap.size wr w') : WkAt w1 X n lv P w' kp ke km kt kd pv ev mv tv dv ps gl := by
 have hX := h.lt
 refine ⟨h.below.trans (hb.mono (Nat.le_of_lt hX)), h.obj.below hb, fun i => (hb.frozen (p := ⟨X, i, none⟩) hX).trans (h.free i), rowBelow h.prow hb, rowBelow h.erow hb, rowBelow h.mrow hb, rowBelow h.trow hb, rowBelow h.drow hb, fun i hi => ?_, fun g hg => ⟨(h.gat g hg).1, (hb.block g (heap_ltF (h.gat g hg).2)).trans (h.gat g hg).2⟩, h.gne, h.gd⟩
 obtain ⟨v, h1, h2⟩ := h.pcs i hi
 exact ⟨v, h1, rowBelow h2 hb⟩
theorem rowOther {s1 m1 : Nat} {e1 : TypeId} {v1 u : Value} {xs1 : List Value} {row : Option Nat} (i : Nat) (h1 : wr.ownsRow (X + 1) e1 s1 v1 m1 xs1) (hg : wr.grownBy w' row) (hne : v1.ownBlock = none ∨ v1.ownBlock ≠ row) : (w'.setCell ⟨X, i, none⟩ u).ownsRow (X + 1) e1 s1 v1 m1 xs1 :=
 rowSet (h1.kept hg hne) (by omega)
theorem objStep {row : Option Nat} (h : WkAt w1 X n lv P wr kp ke km kt kd pv ev mv tv dv ps gl) (hg : wr.grownBy w' row) (hrow : ∀ k, row = some k → X < k) (i : Nat) (hi : i < 6) (u : Value) :
  (∃ u0, w'.cell? ⟨X, i, none⟩ = some u0) ∧ w'.frozen? ⟨X, i, none⟩ = false ∧ Below X w1 (w'.setCell ⟨X, i, none⟩ u) ∧ (∃ fr, (w'.setCell ⟨X, i, none⟩ u).heap[X]? = some (Obj.cells (#[lv, pv, ev, mv, tv, dv].setIfInBounds i u) 99 fr)) ∧ (∀ j, (w'.setCell ⟨X, i, none⟩ u).frozen? ⟨X, j, none⟩ = false) ∧
   ∀ k, X < k → some k ≠ row → k < wr.heap.size → (w'.setCell ⟨X, i, none⟩ u).heap[k]? = wr.heap[k]? := by
 have hX := h.lt
 obtain ⟨fr, ho⟩ := h.obj
 have hX2 : w'.heap[X]? = wr.heap[X]? := hg.block X hX (fun e => by have := hrow X e.symm; omega)
 have hfr : ∀ j, w'.frozen? ⟨X, j, none⟩ = false := fun j => by
  have := h.free j
  unfold World.frozen? at this ⊢
  rw [hX2]; exact this
 refine ⟨?_, hfr i, ?_, ⟨fr, ?_⟩, fun j => by rw [World.frozen?_setCell]; exact hfr j, fun k hk hn hl => by rw [Below.heap_setCell _ _ _ _ (by intro e; simp only at e; omega)]; exact hg.block k hl hn⟩
 ·refine ⟨#[lv, pv, ev, mv, tv, dv][i]'(by simpa using hi), ?_⟩
  rw [cell_blkT hX2, cell_of_row wr X i _ _ _ ho, Array.getElem?_eq_getElem (by simpa using hi)]
 ·exact (h.below.grown hg (Nat.le_of_lt hX) (fun k hk => Nat.le_of_lt (hrow k hk))).setCell (p := ⟨X, i, none⟩) (Nat.le_refl _) u
 ·simp [World.setCell, Array.getElem?_modify, hX2, ho]
end
theorem infoWkP : (Tryz.prog.info? 67).map (fun i => (i.zero, i.size, i.bytes)) = some (some (.slice none 0 0), 1, 24) := by kernel_rfl
theorem appendWkP {ops : Array Oper} {rest : List Oper} {o : Oper} {a : Act} {Q : Exit → Act → World → Prop} (hgd : o.guard = none) (s x : Operand)
  (ho : o.op = .call { callee := .builtin .append, args := #[s, x], argTypes := #[95, 95] }) {B n : Nat} {w : World} {v u : Value} {vs : List Value} (hown : w.ownsRow B 67 1 v n vs) (hB : B ≤ w.heap.size) (hn : n ≤ 1000000) (hu : u.oneCell' = true) (hs : a.eval s = v)
  {c H : Nat} (hx : a.eval x = .slice (some ⟨H, 0, none⟩) 1 c) (hH : w.heap.size = H)
  (h : ∀ g cap w', w'.ownsRow B 67 1 (.slice (some ⟨g, 0, none⟩) (n + 1) cap) (n + 1) (vs ++ [u]) → (w.alloc (Obj.cells #[u] 67)).grownBy w' v.ownBlock → (v.ownBlock = some g ∨ w.heap.size ≤ g) → wpList Tryz.prog ops Q rest (a.put o.dst (.slice (some ⟨g, 0, none⟩) (n + 1) cap)) w') :
  wpList Tryz.prog ops Q (o :: rest) a (w.alloc (Obj.cells #[u] 67)) := by
 subst hH
 obtain ⟨i0, hi, hz0, hz1, hz2⟩ := info_parts infoWkP
 refine wpList_append_lies _ hgd s x _ ho B 67 i0 (.slice none 0 0) 1 24 Tryz.underlying95 hi hz0 hz1 hz2 rfl (by decide) v n vs hs (hown.alloc _) ⟨w.heap.size, 0, none⟩ 1 c [u] hx rfl (World.news_of_block (heap_alloc_new w _)) ?_ (by decide) (by unfold maxLen; omega) (by omega) (Nat.le_trans hB (below_one w _).size) _ rfl ?_
 ·intro u' hu'
  rw [List.mem_singleton.1 hu']; exact hu
 ·intro g cap w1 h1 h2 h3 _
  exact h g cap w1 h1 h2 (h3.imp id fun h3 => by rw [h3]; exact (below_one w _).size)
theorem infoWkE : (Tryz.prog.info? 53).map (fun i => (i.zero, i.size, i.bytes)) = some (some (.slice none 0 0), 1, 24) := by kernel_rfl
theorem infoWkM : (Tryz.prog.info? 3).map (fun i => (i.zero, i.size, i.bytes)) = some (some (.int .i64 0), 1, 8) := by kernel_rfl
theorem appendWkM {ops : Array Oper} {rest : List Oper} {o : Oper} {a : Act} {Q : Exit → Act → World → Prop} (hgd : o.guard = none) (s x : Operand)
  (ho : o.op = .call { callee := .builtin .append, args := #[s, x], argTypes := #[97, 97] }) {B n : Nat} {w : World} {v u : Value} {vs : List Value} (hown : w.ownsRow B 3 1 v n vs) (hB : B ≤ w.heap.size) (hn : n ≤ 1000000) (hu : u.oneCell' = true) (hs : a.eval s = v)
  {c H : Nat} (hx : a.eval x = .slice (some ⟨H, 0, none⟩) 1 c) (hH : w.heap.size = H)
  (h : ∀ g cap w', w'.ownsRow B 3 1 (.slice (some ⟨g, 0, none⟩) (n + 1) cap) (n + 1) (vs ++ [u]) → (w.alloc (Obj.cells #[u] 3)).grownBy w' v.ownBlock → (v.ownBlock = some g ∨ w.heap.size ≤ g) → wpList Tryz.prog ops Q rest (a.put o.dst (.slice (some ⟨g, 0, none⟩) (n + 1) cap)) w') :
  wpList Tryz.prog ops Q (o :: rest) a (w.alloc (Obj.cells #[u] 3)) := by
 subst hH
 obtain ⟨i0, hi, hz0, hz1, hz2⟩ := info_parts infoWkM
 refine wpList_append_lies _ hgd s x _ ho B 3 i0 (.int .i64 0) 1 8 Tryz.underlying97 hi hz0 hz1 hz2 rfl (by decide) v n vs hs (hown.alloc _) ⟨w.heap.size, 0, none⟩ 1 c [u] hx rfl (World.news_of_block (heap_alloc_new w _)) ?_ (by decide) (by unfold maxLen; omega) (by omega) (Nat.le_trans hB (below_one w _).size) _ rfl ?_
 ·intro u' hu'
  rw [List.mem_singleton.1 hu']; exact hu
 ·intro g cap w1 h1 h2 h3 _
  exact h g cap w1 h1 h2 (h3.imp id fun h3 => by rw [h3]; exact (below_one w _).size)
theorem infoWkT : (Tryz.prog.info? 9).map (fun i => (i.zero, i.size, i.bytes)) = some (some (.string ByteArray.empty), 1, 16) := by kernel_rfl
theorem appendWkT {ops : Array Oper} {rest : List Oper} {o : Oper} {a : Act} {Q : Exit → Act → World → Prop} (hgd : o.guard = none) (s x : Operand)
  (ho : o.op = .call { callee := .builtin .append, args := #[s, x], argTypes := #[24, 24] }) {B n : Nat} {w : World} {v u : Value} {vs : List Value} (hown : w.ownsRow B 9 1 v n vs) (hB : B ≤ w.heap.size) (hn : n ≤ 1000000) (hu : u.oneCell' = true) (hs : a.eval s = v)
  {c H : Nat} (hx : a.eval x = .slice (some ⟨H, 0, none⟩) 1 c) (hH : w.heap.size = H)
  (h : ∀ g cap w', w'.ownsRow B 9 1 (.slice (some ⟨g, 0, none⟩) (n + 1) cap) (n + 1) (vs ++ [u]) → (w.alloc (Obj.cells #[u] 9)).grownBy w' v.ownBlock → (v.ownBlock = some g ∨ w.heap.size ≤ g) → wpList Tryz.prog ops Q rest (a.put o.dst (.slice (some ⟨g, 0, none⟩) (n + 1) cap)) w') :
  wpList Tryz.prog ops Q (o :: rest) a (w.alloc (Obj.cells #[u] 9)) := by
 subst hH
 obtain ⟨i0, hi, hz0, hz1, hz2⟩ := info_parts infoWkT
 refine wpList_append_lies _ hgd s x _ ho B 9 i0 (.string ByteArray.empty) 1 16 Tryz.underlying24 hi hz0 hz1 hz2 rfl (by decide) v n vs hs (hown.alloc _) ⟨w.heap.size, 0, none⟩ 1 c [u] hx rfl (World.news_of_block (heap_alloc_new w _)) ?_ (by decide) (by unfold maxLen; omega) (by omega) (Nat.le_trans hB (below_one w _).size) _ rfl ?_
 ·intro u' hu'
  rw [List.mem_singleton.1 hu']; exact hu
 ·intro g cap w1 h1 h2 h3 _
  exact h g cap w1 h1 h2 (h3.imp id fun h3 => by rw [h3]; exact (below_one w _).size)
theorem infoWkD : (Tryz.prog.info? 4).map (fun i => (i.zero, i.size, i.bytes)) = some (some (.bool false), 1, 1) := by kernel_rfl
theorem appendWkD {ops : Array Oper} {rest : List Oper} {o : Oper} {a : Act} {Q : Exit → Act → World → Prop} (hgd : o.guard = none) (s x : Operand)
  (ho : o.op = .call { callee := .builtin .append, args := #[s, x], argTypes := #[53, 53] }) {B n : Nat} {w : World} {v u : Value} {vs : List Value} (hown : w.ownsRow B 4 1 v n vs) (hB : B ≤ w.heap.size) (hn : n ≤ 1000000) (hu : u.oneCell' = true) (hs : a.eval s = v)
  {c H : Nat} (hx : a.eval x = .slice (some ⟨H, 0, none⟩) 1 c) (hH : w.heap.size = H)
  (h : ∀ g cap w', w'.ownsRow B 4 1 (.slice (some ⟨g, 0, none⟩) (n + 1) cap) (n + 1) (vs ++ [u]) → (w.alloc (Obj.cells #[u] 4)).grownBy w' v.ownBlock → (v.ownBlock = some g ∨ w.heap.size ≤ g) → wpList Tryz.prog ops Q rest (a.put o.dst (.slice (some ⟨g, 0, none⟩) (n + 1) cap)) w') :
  wpList Tryz.prog ops Q (o :: rest) a (w.alloc (Obj.cells #[u] 4)) := by
 subst hH
 obtain ⟨i0, hi, hz0, hz1, hz2⟩ := info_parts infoWkD
 refine wpList_append_lies _ hgd s x _ ho B 4 i0 (.bool false) 1 1 Tryz.underlying53 hi hz0 hz1 hz2 rfl (by decide) v n vs hs (hown.alloc _) ⟨w.heap.size, 0, none⟩ 1 c [u] hx rfl (World.news_of_block (heap_alloc_new w _)) ?_ (by decide) (by unfold maxLen; omega) (by omega) (Nat.le_trans hB (below_one w _).size) _ rfl ?_
 ·intro u' hu'
  rw [List.mem_singleton.1 hu']; exact hu
 ·intro g cap w1 h1 h2 h3 _
  exact h g cap w1 h1 h2 (h3.imp id fun h3 => by rw [h3]; exact (below_one w _).size)
theorem stepWkE {ops : Array Oper} {o : Oper} {a : Act} {W : World} {K : Act → World → Prop} {Q : Exit → Act → World → Prop} {E : Prop} (hgd : o.guard = none) (sl x : Operand)
  (ho : o.op = .call { callee := .builtin .append, args := #[sl, x], argTypes := #[96, 96] }) {B n : Nat} {v u : Value} {vs : List Value} (hown : W.ownsRow B 53 1 v n vs) (hB : B ≤ W.heap.size) (hn : n ≤ 1000000) (hu : u.oneCell' = true) (hs : a.eval sl = v)
  {g c : Nat} (hx : a.eval x = .slice (some ⟨g, 0, none⟩) 1 c) (hk : W.cell? ⟨g, 0, none⟩ = some u)
  (h : ∀ y cap W2, W2.ownsRow B 53 1 (.slice (some ⟨y, 0, none⟩) (n + 1) cap) (n + 1) (vs ++ [u]) → W.grownBy W2 v.ownBlock → (v.ownBlock = some y ∨ W.heap.size ≤ y) → K (a.put o.dst (.slice (some ⟨y, 0, none⟩) (n + 1) cap)) W2) :
  if Region.wanted o (yielded ops a.tmps) = true then Oper.wp Tryz.prog o a W K Q else E := by
 obtain ⟨i0, hi, hz0, hz1, hz2⟩ := info_parts infoWkE
 refine step_append_lies _ hgd sl x _ ho B 53 i0 _ 1 24 Tryz.underlying96 hi hz0 hz1 hz2 rfl (by decide) v n vs hs hown ⟨g, 0, none⟩ 1 c [u] hx rfl (fun j u' hu' => by
  cases j with
  | zero => rw [add_zero_at]; simp only [List.getElem?_cons_zero] at hu'; rw [← hu']; exact hk
  | succ j => simp at hu') ?_ (by decide) (by unfold maxLen; omega) (by omega) hB _ rfl ?_
 ·intro u' hu'
  rw [List.mem_singleton.1 hu']; exact hu
 intro y cap W2 h1 h2 h3 _
 exact h y cap W2 h1 h2 (h3.imp id fun h3 => by rw [h3]; exact Nat.le_refl _)
section
variable {w1 wr w' : World} {X n kp ke km kt kd : Nat} {lv pv ev mv tv dv : Value} {P : Nat → List PcB} {ps : List Value} {gl : List Nat} {o : Obj}
theorem WkAt.stepP {y cap : Nat} {u : Value} (h : WkAt w1 X n lv P wr kp ke km kt kd pv ev mv tv dv ps gl) (hu : wr.ownsRow (X + 1) 71 2 u (P kp).length (pFlat (P kp))) (hr : w'.ownsRow (X + 1) 67 1 (.slice (some ⟨y, 0, none⟩) (kp + 1) cap) (kp + 1) (ps ++ [u])) (hg : wr.grownBy w' pv.ownBlock) :
  (∃ u0, w'.cell? ⟨X, 1, none⟩ = some u0) ∧ w'.frozen? ⟨X, 1, none⟩ = false ∧ WkAt w1 X n lv P (w'.setCell ⟨X, 1, none⟩ (Value.slice (some ⟨y, 0, none⟩) (kp + 1) cap)) (kp + 1) ke km kt kd (Value.slice (some ⟨y, 0, none⟩) (kp + 1) cap) ev mv tv dv (ps ++ [u]) gl := by
 obtain ⟨s1, s2, s3, ⟨fr, s4⟩, s5, s6⟩ := objStep h hg (fun k hk => (h.prow.lt k hk).1) 1 (by decide) (Value.slice (some ⟨y, 0, none⟩) (kp + 1) cap)
 have hbl : ∀ k a t fz, X < k → wr.heap[k]? = some (Obj.cells a t fz) → pv.ownBlock ≠ some k → (w'.setCell ⟨X, 1, none⟩ (Value.slice (some ⟨y, 0, none⟩) (kp + 1) cap)).heap[k]? = some (Obj.cells a t fz) := fun k a t fz hk hb hne => (s6 k hk (fun e => hne e.symm) (heap_ltF hb)).trans hb
 exact ⟨s1, s2, s3, ⟨fr, s4⟩, s5, rowSet hr (by omega), rowOther 1 h.erow hg (rowApart h.erow h.prow (by decide)), rowOther 1 h.mrow hg (rowApart h.mrow h.prow (by decide)), rowOther 1 h.trow hg (rowApart h.trow h.prow (by decide)), rowOther 1 h.drow hg (rowApart h.drow h.prow (by decide)), fun i hi => by
  by_cases e : i = kp
  ·subst e
   exact ⟨u, by rw [← (show ps.length = i by have := h.prow.1; omega)]; simp, rowOther 1 hu hg (rowApart hu h.prow (by decide))⟩
  ·obtain ⟨v, h1, h2⟩ := h.pcs i (by omega)
   exact ⟨v, by rw [List.getElem?_append_left (by have := h.prow.1; omega)]; exact h1, rowOther 1 h2 hg (rowApart h2 h.prow (by decide))⟩, fun g hgl => ⟨(h.gat g hgl).1, hbl g _ _ _ (h.gat g hgl).1 (h.gat g hgl).2 (own_ne h.prow (h.gat g hgl).2 (by decide))⟩, h.gne, h.gd⟩
theorem WkAt.stepE {y cap : Nat} {gn : Nat} (h : WkAt w1 X n lv P wr kp ke km kt kd pv ev mv tv dv ps gl) (hgX : X < gn) (hgb : wr.heap[gn]? = some (Obj.cells (List.replicate n (Value.bool false)).toArray 4 (0, 0))) (hgn : ∀ g ∈ gl, g ≠ gn) (hgd : dv.ownBlock ≠ some gn) (hr : w'.ownsRow (X + 1) 53 1 (.slice (some ⟨y, 0, none⟩) (ke + 1) cap) (ke + 1) ((gl.map fun g => Value.slice (some ⟨g, 0, none⟩) n n) ++ [Value.slice (some ⟨gn, 0, none⟩) n n])) (hg : wr.grownBy w' ev.ownBlock) :
  (∃ u0, w'.cell? ⟨X, 2, none⟩ = some u0) ∧ w'.frozen? ⟨X, 2, none⟩ = false ∧ WkAt w1 X n lv P (w'.setCell ⟨X, 2, none⟩ (Value.slice (some ⟨y, 0, none⟩) (ke + 1) cap)) kp (ke + 1) km kt kd pv (Value.slice (some ⟨y, 0, none⟩) (ke + 1) cap) mv tv dv ps (gl ++ [gn]) := by
 obtain ⟨s1, s2, s3, ⟨fr, s4⟩, s5, s6⟩ := objStep h hg (fun k hk => (h.erow.lt k hk).1) 2 (by decide) (Value.slice (some ⟨y, 0, none⟩) (ke + 1) cap)
 have hbl : ∀ k a t fz, X < k → wr.heap[k]? = some (Obj.cells a t fz) → ev.ownBlock ≠ some k → (w'.setCell ⟨X, 2, none⟩ (Value.slice (some ⟨y, 0, none⟩) (ke + 1) cap)).heap[k]? = some (Obj.cells a t fz) := fun k a t fz hk hb hne => (s6 k hk (fun e => hne e.symm) (heap_ltF hb)).trans hb
 exact ⟨s1, s2, s3, ⟨fr, s4⟩, s5, rowOther 2 h.prow hg (rowApart h.prow h.erow (by decide)), by rw [List.map_append]; exact rowSet hr (by omega), rowOther 2 h.mrow hg (rowApart h.mrow h.erow (by decide)), rowOther 2 h.trow hg (rowApart h.trow h.erow (by decide)), rowOther 2 h.drow hg (rowApart h.drow h.erow (by decide)), fun i hi => (by obtain ⟨v, h1, h2⟩ := h.pcs i hi; exact ⟨v, h1, rowOther 2 h2 hg (rowApart h2 h.erow (by decide))⟩), fun g hgl => by
  rcases List.mem_append.1 hgl with hgl | hgl
  ·exact ⟨(h.gat g hgl).1, hbl g _ _ _ (h.gat g hgl).1 (h.gat g hgl).2 (own_ne h.erow (h.gat g hgl).2 (by decide))⟩
  ·rw [List.mem_singleton.1 hgl]
   exact ⟨hgX, hbl gn _ _ _ hgX hgb (own_ne h.erow hgb (by decide))⟩, List.nodup_append.2 ⟨h.gne, by simp, fun a ha b hb e => by rw [List.mem_singleton.1 hb] at e; exact hgn a ha e⟩, fun g hgl => by
  rcases List.mem_append.1 hgl with hgl | hgl
  ·exact h.gd g hgl
  ·rw [List.mem_singleton.1 hgl]; exact hgd⟩
theorem WkAt.stepM {y cap : Nat} (h : WkAt w1 X n lv P wr kp ke km kt kd pv ev mv tv dv ps gl) (hr : w'.ownsRow (X + 1) 3 1 (.slice (some ⟨y, 0, none⟩) (km + 1) cap) (km + 1) (List.replicate km (.int .i64 (-1)) ++ [.int .i64 (-1)])) (hg : wr.grownBy w' mv.ownBlock) :
  (∃ u0, w'.cell? ⟨X, 3, none⟩ = some u0) ∧ w'.frozen? ⟨X, 3, none⟩ = false ∧ WkAt w1 X n lv P (w'.setCell ⟨X, 3, none⟩ (Value.slice (some ⟨y, 0, none⟩) (km + 1) cap)) kp ke (km + 1) kt kd pv ev (Value.slice (some ⟨y, 0, none⟩) (km + 1) cap) tv dv ps gl := by
 obtain ⟨s1, s2, s3, ⟨fr, s4⟩, s5, s6⟩ := objStep h hg (fun k hk => (h.mrow.lt k hk).1) 3 (by decide) (Value.slice (some ⟨y, 0, none⟩) (km + 1) cap)
 have hbl : ∀ k a t fz, X < k → wr.heap[k]? = some (Obj.cells a t fz) → mv.ownBlock ≠ some k → (w'.setCell ⟨X, 3, none⟩ (Value.slice (some ⟨y, 0, none⟩) (km + 1) cap)).heap[k]? = some (Obj.cells a t fz) := fun k a t fz hk hb hne => (s6 k hk (fun e => hne e.symm) (heap_ltF hb)).trans hb
 exact ⟨s1, s2, s3, ⟨fr, s4⟩, s5, rowOther 3 h.prow hg (rowApart h.prow h.mrow (by decide)), rowOther 3 h.erow hg (rowApart h.erow h.mrow (by decide)), by rw [List.replicate_succ']; exact rowSet hr (by omega), rowOther 3 h.trow hg (rowApart h.trow h.mrow (by decide)), rowOther 3 h.drow hg (rowApart h.drow h.mrow (by decide)), fun i hi => (by obtain ⟨v, h1, h2⟩ := h.pcs i hi; exact ⟨v, h1, rowOther 3 h2 hg (rowApart h2 h.mrow (by decide))⟩), fun g hgl => ⟨(h.gat g hgl).1, hbl g _ _ _ (h.gat g hgl).1 (h.gat g hgl).2 (own_ne h.mrow (h.gat g hgl).2 (by decide))⟩, h.gne, h.gd⟩
theorem WkAt.stepT {y cap : Nat} (h : WkAt w1 X n lv P wr kp ke km kt kd pv ev mv tv dv ps gl) (hr : w'.ownsRow (X + 1) 9 1 (.slice (some ⟨y, 0, none⟩) (kt + 1) cap) (kt + 1) (List.replicate kt (.string ⟨#[]⟩) ++ [.string ⟨#[]⟩])) (hg : wr.grownBy w' tv.ownBlock) :
  (∃ u0, w'.cell? ⟨X, 4, none⟩ = some u0) ∧ w'.frozen? ⟨X, 4, none⟩ = false ∧ WkAt w1 X n lv P (w'.setCell ⟨X, 4, none⟩ (Value.slice (some ⟨y, 0, none⟩) (kt + 1) cap)) kp ke km (kt + 1) kd pv ev mv (Value.slice (some ⟨y, 0, none⟩) (kt + 1) cap) dv ps gl := by
 obtain ⟨s1, s2, s3, ⟨fr, s4⟩, s5, s6⟩ := objStep h hg (fun k hk => (h.trow.lt k hk).1) 4 (by decide) (Value.slice (some ⟨y, 0, none⟩) (kt + 1) cap)
 have hbl : ∀ k a t fz, X < k → wr.heap[k]? = some (Obj.cells a t fz) → tv.ownBlock ≠ some k → (w'.setCell ⟨X, 4, none⟩ (Value.slice (some ⟨y, 0, none⟩) (kt + 1) cap)).heap[k]? = some (Obj.cells a t fz) := fun k a t fz hk hb hne => (s6 k hk (fun e => hne e.symm) (heap_ltF hb)).trans hb
 exact ⟨s1, s2, s3, ⟨fr, s4⟩, s5, rowOther 4 h.prow hg (rowApart h.prow h.trow (by decide)), rowOther 4 h.erow hg (rowApart h.erow h.trow (by decide)), rowOther 4 h.mrow hg (rowApart h.mrow h.trow (by decide)), by rw [List.replicate_succ']; exact rowSet hr (by omega), rowOther 4 h.drow hg (rowApart h.drow h.trow (by decide)), fun i hi => (by obtain ⟨v, h1, h2⟩ := h.pcs i hi; exact ⟨v, h1, rowOther 4 h2 hg (rowApart h2 h.trow (by decide))⟩), fun g hgl => ⟨(h.gat g hgl).1, hbl g _ _ _ (h.gat g hgl).1 (h.gat g hgl).2 (own_ne h.trow (h.gat g hgl).2 (by decide))⟩, h.gne, h.gd⟩
theorem WkAt.stepD {y cap : Nat} (h : WkAt w1 X n lv P wr kp ke km kt kd pv ev mv tv dv ps gl) (hy : dv.ownBlock = some y ∨ wr.heap.size ≤ y) (hr : w'.ownsRow (X + 1) 4 1 (.slice (some ⟨y, 0, none⟩) (kd + 1) cap) (kd + 1) (List.replicate kd (.bool false) ++ [.bool false])) (hg : wr.grownBy w' dv.ownBlock) :
  (∃ u0, w'.cell? ⟨X, 5, none⟩ = some u0) ∧ w'.frozen? ⟨X, 5, none⟩ = false ∧ WkAt w1 X n lv P (w'.setCell ⟨X, 5, none⟩ (Value.slice (some ⟨y, 0, none⟩) (kd + 1) cap)) kp ke km kt (kd + 1) pv ev mv tv (Value.slice (some ⟨y, 0, none⟩) (kd + 1) cap) ps gl := by
 obtain ⟨s1, s2, s3, ⟨fr, s4⟩, s5, s6⟩ := objStep h hg (fun k hk => (h.drow.lt k hk).1) 5 (by decide) (Value.slice (some ⟨y, 0, none⟩) (kd + 1) cap)
 have hbl : ∀ k a t fz, X < k → wr.heap[k]? = some (Obj.cells a t fz) → dv.ownBlock ≠ some k → (w'.setCell ⟨X, 5, none⟩ (Value.slice (some ⟨y, 0, none⟩) (kd + 1) cap)).heap[k]? = some (Obj.cells a t fz) := fun k a t fz hk hb hne => (s6 k hk (fun e => hne e.symm) (heap_ltF hb)).trans hb
 exact ⟨s1, s2, s3, ⟨fr, s4⟩, s5, rowOther 5 h.prow hg (rowApart h.prow h.drow (by decide)), rowOther 5 h.erow hg (rowApart h.erow h.drow (by decide)), rowOther 5 h.mrow hg (rowApart h.mrow h.drow (by decide)), rowOther 5 h.trow hg (rowApart h.trow h.drow (by decide)), by rw [List.replicate_succ']; exact rowSet hr (by omega), fun i hi => (by obtain ⟨v, h1, h2⟩ := h.pcs i hi; exact ⟨v, h1, rowOther 5 h2 hg (rowApart h2 h.drow (by decide))⟩), fun g hgl => ⟨(h.gat g hgl).1, hbl g _ _ _ (h.gat g hgl).1 (h.gat g hgl).2 (h.gd g hgl)⟩, h.gne, fun g hgl e => by
  have : y = g := by simpa [Value.ownBlock] using e
  subst this
  rcases hy with h1 | h1
  ·exact h.gd y hgl h1
  ·have := heap_ltF (h.gat y hgl).2; omega⟩
end
end Go.Proofs.YtopghlnoklajkaaGreatDoor
