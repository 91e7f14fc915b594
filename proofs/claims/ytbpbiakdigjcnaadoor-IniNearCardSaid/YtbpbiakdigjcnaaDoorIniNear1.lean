/-
  The walk of IniNear.
-/
import Derived.Test.YtbpbiakdigjcnaaDoorIniRefPrint
import Derived.Test.YtbpbiakdigjcnaaDoorIniParses0
import Derived.Test.YtbpbiakdigjcnaaDoorIniBackMath
import Derived.BigRegion
import Derived.Deep.RegionLaw
import Derived.Deep.RegionHeld3
import Derived.Laws.OwnMore
namespace Go.Proofs.YtbpbiakdigjcnaaDoor
open Go.ChangeShapes Go.WideShapes Go.ChangeAt Go.RowKit

theorem near_append_eq {P : Program} {w w' : World} {ops : Array Oper} {o : Oper} {a : Act} {K : Act → World → Prop} {Q : Exit → Act → World → Prop} {E : Prop} (hgd : o.guard = none) (s x : Operand) (t t2 : TypeId)
    (ho : o.op = .call { callee := .builtin .append, args := #[s, x], argTypes := #[t, t2] }) (v u v' : Value) (hs : a.eval s = v) (hx : a.eval x = u)
    (hr : (Builtin.append_ #[t, t2] o.type #[v, u]).run P w = .ok v' w') (h : K (a.put o.dst v') w') : if Region.wanted o (yielded ops a.tmps) = true then Oper.wp P o a w K Q else E := by
  have hw : Region.wanted o (yielded ops a.tmps) = true := by simp [Region.wanted, hgd]
  rw [if_pos hw]
  unfold Oper.wp execOp
  simp only [ho, resolve, invoke, builtin, Sem.run_bind, Sem.run_pure, Result.andThen_ok, List.map_toArray, List.map_cons, List.map_nil, hs, hx, hr]
  exact h
/-- Lines printed by the document's own answer: a text that is not long. -/
theorem near_print (ls : List LineV) (hn : ls.length ≤ 4294967280) (hF : Fit ls) :
    ∃ (T : ByteArray) (E : Int), T.size ≤ 8000 ∧ ∀ (y : Option Addr) (d : Nat) (W : World), Lns W y ls → ls.length ≤ d → Calls Tryd.prog 12 #[.slice y ls.length d] W (fun e w' => e = .returned (.tuple #[.string T, .int .i64 E]) ∧ Below W.heap.size W w') := by
  refine ⟨_, _, ?_, fun y d W hy hd => refPrint_any y d ls W hy hn hd hF⟩
  rw [len_mkB]
  cases h : printF ls with
  | none => simp
  | some b => exact (print_read h).2
/-- A row of texts. -/
theorem near_row (W : World) (xs : List ByteArray) (g N c : Nat) (hN : xs.length = N) (hT : Tab W) (hI : MaxI W) (hr : ∀ k (h : k < xs.length), W.cell? ⟨g, k, none⟩ = some (.string xs[k])) (h0 : 0 < xs.length) (h1 : xs.length ≤ 100) (hs : ∀ x ∈ xs, x.size ≤ 4294967280) :
    Calls Tryd.prog 10 #[.slice (some ⟨g, 0, none⟩) N c] W fun e w' => e = .returned (.bool true) ∧ Below W.heap.size W w' := by
  subst hN
  refine parses_any xs.length g c (fun k => xs.getD k ⟨#[]⟩) W hT hI (fun k hk => ?_) (fun k hk => ?_) h1 h0
  · rw [hr k hk]; simp [List.getD, hk]
  · have : xs.getD k ⟨#[]⟩ = xs[k] := by simp [List.getD, hk]
    simp only [this]
    exact hs _ (List.getElem_mem hk)
theorem near_conv (by_ : Int) : ∃ u : UInt8, ∀ W : World, (convert 3 5 (.int .i64 by_)).run Tryd.prog W = .ok (.int .u8 (u.toNat : Int)) W := by
  refine ⟨UInt8.ofNat (by_ % 256).toNat, fun W => ?_⟩
  have hh : (((UInt8.ofNat (by_ % 256).toNat).toNat : Nat) : Int) = by_ % 256 := by simp; omega
  rw [hh]
  have u3 := Tryd.underlying3
  have u5 := Tryd.underlying5
  go_simp
  simp [IntKind.wrap, IntKind.signed]
  rfl
theorem near_byte (u : UInt8) (W : World) (t : TypeId) : (convert 32 9 (.slice (some ⟨W.heap.size, 0, none⟩) 1 1)).run Tryd.prog (W.alloc (Obj.cells #[.int .u8 (u.toNat : Int)] t)).drew = .ok (.string ⟨#[u]⟩) (W.alloc (Obj.cells #[.int .u8 (u.toNat : Int)] t)).drew := by
  have := ofBytes (P := Tryd.prog) 9 32 5 (W.alloc (Obj.cells #[.int .u8 (u.toNat : Int)] t)).drew W.heap.size 1 1 [u] rfl Tryd.underlying9 Tryd.underlying32 Tryd.underlying5 (fun j hj => by
    have : j = 0 := by simp at hj; omega
    subst this
    have h0 : (W.alloc (Obj.cells #[.int .u8 (u.toNat : Int)] t)).drew.heap[W.heap.size]? = some (Obj.cells #[.int .u8 (u.toNat : Int)] t (0, 0)) := heap_alloc_new W _
    exact ⟨by rw [cell_of_row _ W.heap.size 0 _ _ _ h0]; rfl, by simp only [World.frozen?, h0]; rfl⟩)
  exact this
/-- A list of texts, written out behind one byte. -/
theorem near_lit (w W : World) (hb : Below w.heap.size w W) (V : Int) (xs : List ByteArray) (cs : Array Value) (hcs : cs = (xs.map Value.string).toArray) (n : Nat) (hn : xs.length = n) (h1 : n ≤ 100) (t : TypeId) :
    Below w.heap.size w ((W.alloc (Obj.cells #[.int .u8 V] t)).alloc (Obj.cells cs 9)).drew ∧ ((W.alloc (Obj.cells #[.int .u8 V] t)).alloc (Obj.cells cs 9)).drew.ownsRow w.heap.size 9 1 (.slice (some ⟨W.heap.size + 1, 0, none⟩) n n) n (xs.map Value.string) := by
  subst hcs hn
  have b1 := below_one W (Obj.cells #[.int .u8 V] t)
  have s1 : (W.alloc (Obj.cells #[.int .u8 V] t)).heap.size = W.heap.size + 1 := by simp
  generalize W.alloc (Obj.cells #[.int .u8 V] t) = W1 at b1 s1
  have b2 := hb.trans (b1.mono hb.size)
  have b3 := b2.trans ((below_one W1 (Obj.cells (xs.map Value.string).toArray 9)).mono b2.size)
  have ho := World.ownsRow_lit (base := w.heap.size) (e := 9) (size := 1) W1 (xs.map Value.string).toArray xs.length b2.size (by unfold maxLen; omega) (by simp)
  rw [s1] at ho
  exact ⟨b3.trans ((below_drewN _ 1).mono b3.size), by simpa using ho.drew⟩
/-- Texts more. -/
theorem near_grow (w D : World) (G c H : Nat) (xs ys : List ByteArray) (hb : Below w.heap.size w D) (n m : Nat) (hn : xs.length = n) (hm : ys.length = m) (ho : D.ownsRow w.heap.size 9 1 (.slice (some ⟨G, 0, none⟩) n c) n (xs.map Value.string))
    (hnew : ∀ j u, (ys.map Value.string)[j]? = some u → D.cell? ⟨H, j, none⟩ = some u) (h0 : 0 < m) (h1 : n + m ≤ 100) :
    ∃ g cap W', (Builtin.append_ #[25, 25] 25 #[.slice (some ⟨G, 0, none⟩) n c, .slice (some ⟨H, 0, none⟩) m m]).run Tryd.prog D = .ok (.slice (some ⟨g, 0, none⟩) (n + m) cap) W' ∧ Below w.heap.size w W' ∧ ∀ k (h : k < (xs ++ ys).length), W'.cell? ⟨g, k, none⟩ = some (.string (xs ++ ys)[k]) := by
  obtain ⟨i0, hi, hz0, hz1, hz2⟩ := info_parts infoStr
  obtain ⟨g, cap, W', hr, h2, h3, _, _⟩ := run_append_lies (P := Tryd.prog) D 25 25 w.heap.size 9 i0 _ 1 16 Tryd.underlying25 hi hz0 hz1 hz2 rfl (by decide) _ n _ ho ⟨H, 0, none⟩ m m (ys.map Value.string) (by simp [hm]) (fun j u hj => by rw [add_zero_at]; exact hnew j u hj) (fun u hu => by obtain ⟨s, _, rfl⟩ := List.mem_map.1 hu; rfl) h0 (by unfold maxLen; omega) (by omega) hb.size _ rfl
  refine ⟨g, cap, W', hr, hb.grown h3 hb.size (fun k hk => (ho.lt k hk).1), fun k hk => ?_⟩
  have hk' : k < n + m := by simpa [hn, hm] using hk
  rw [h2.cellAt k (by omega), ← List.map_append, List.getElem?_map, List.getElem?_eq_getElem hk]
  rfl

set_option maxHeartbeats 3200000 in
set_option maxRecDepth 100000 in
theorem iniNear_any (x : Option Addr) (c : Nat) (ls : List LineV) (at_ by_ : Int) (s : ByteArray) (w : World) (hL : Lns w x ls) (hc : ls.length ≤ c) (hm : ls.length ≤ maxLen) (hz : ∀ l ∈ ls, l.name.size ≤ maxLen ∧ l.text.size ≤ maxLen)
    (hs : s.size ≤ maxLen) (ha : -9223372036854775808 ≤ at_ ∧ at_ ≤ 9223372036854775807) (hT : Tab w) (hI : MaxI w) :
    Calls Tryd.prog 4 #[.slice x ls.length c, .int .i64 at_, .int .i64 by_, .string s] w fun e w' => e = .returned (.bool true) ∧ Below w.heap.size w w' := by
  obtain ⟨N, hN⟩ : ∃ N, ls.length = N := ⟨_, rfl⟩
  obtain ⟨A, hA⟩ : ∃ A, capB (wN ls) = A := ⟨_, rfl⟩
  have hAi := capB_in (wN ls)
  have HWL : Hid (∀ W, Below w.heap.size w W → Calls Tryd.prog 11 #[.slice x N c] W fun e w' => e = .returned (.int .i64 A) ∧ Below W.heap.size W w') := Lib.hid fun W h => by
    have := weight_any x c ls W (hL.below h) hm hz
    rw [hA, hN] at this
    exact this
  unfold maxLen at hs
  obtain ⟨S1, hS1⟩ : ∃ S, addI A A = S := ⟨_, rfl⟩
  obtain ⟨S2, hS2⟩ : ∃ S, addI (s.size : Int) A = S := ⟨_, rfl⟩
  have HA1 : Hid (∀ W, Calls Tryd.prog 8 #[.int .i64 A, .int .i64 A] W fun e w' => e = .returned (.int .i64 S1) ∧ W = w') := Lib.hid fun W => by rw [← hS1]; exact iadd_any A A W (by omega) (by omega) (by omega) (by omega)
  have HA2 : Hid (∀ W, Calls Tryd.prog 8 #[.int .i64 (s.size : Int), .int .i64 A] W fun e w' => e = .returned (.int .i64 S2) ∧ W = w') := Lib.hid fun W => by rw [← hS2]; exact iadd_any (s.size : Int) A W (by omega) (by omega) (by omega) (by omega)
  by_cases hb1 : 2147483647 < S1
  · clear hA hS1 hS2 hc hm hz ha hAi
    rw [hN]
    go_enter Tryd.func4, Tryd.ntmps4
    go_wp2_with fail
    refine (HWL.out _ (Below.refl _ _)).mono ?_
    rintro e w1 ⟨rfl, hb⟩
    have HB1 := Lib.hid hb
    clear hb
    go_wp2_with fail
    refine (HWL.out _ HB1.out).mono ?_
    rintro e w2 ⟨rfl, hb⟩
    have HB2 := Lib.hid (HB1.out.trans (hb.mono HB1.out.size))
    clear hb
    go_wp2_with fail
    refine (HA1.out _).mono ?_
    rintro e w' ⟨rfl, rfl⟩
    go_wp2
    go_ret
    exact ⟨rfl, HB2.out⟩
  have d1 : decide (2147483647 < S1) = false := decide_eq_false hb1
  by_cases hb2 : 268435455 < S2
  · clear hA hS1 hS2 hc hm hz ha hAi
    rw [hN]
    go_enter Tryd.func4, Tryd.ntmps4
    go_wp2_with fail
    refine (HWL.out _ (Below.refl _ _)).mono ?_
    rintro e w1 ⟨rfl, hb⟩
    have HB1 := Lib.hid hb
    clear hb
    go_wp2_with fail
    refine (HWL.out _ HB1.out).mono ?_
    rintro e w2 ⟨rfl, hb⟩
    have HB2 := Lib.hid (HB1.out.trans (hb.mono HB1.out.size))
    clear hb
    go_wp2_with fail
    refine (HA1.out _).mono ?_
    rintro e w' ⟨rfl, rfl⟩
    go_wp2_with fail
    refine (HWL.out _ HB2.out).mono ?_
    rintro e w3 ⟨rfl, hb⟩
    have HB3 := Lib.hid (HB2.out.trans (hb.mono HB2.out.size))
    clear hb
    go_wp2_with fail
    refine (HA2.out _).mono ?_
    rintro e w' ⟨rfl, rfl⟩
    go_wp2
    go_ret
    exact ⟨rfl, HB3.out⟩
  have d2 : decide (268435455 < S2) = false := decide_eq_false hb2
  have hwA : A ≤ 2147483647 := (addI_le (a := A) (b := A) (by omega) (by omega) (by rw [hS1]; omega)).1
  have hwA2 := capB_le (hA ▸ hwA)
  have hsz : s.size ≤ 268435455 := by
    rw [addI_cap] at hS2
    omega
  have hF := fit_of_weight (ls := ls) (by omega)
  have hlen := wN_len ls
  obtain ⟨T, E, hTz, hrp⟩ := near_print ls (by omega) hF
  rw [hN] at hrp
  have HRP := Lib.hid hrp
  have HC : Hid (N ≤ c) := Lib.hid (by omega)
  have HLX : Hid (∀ W, Below w.heap.size w W → Lns W x ls) := Lib.hid fun W hb => hL.below hb
  have HT : Hid (∀ W, Below w.heap.size w W → Tab W ∧ MaxI W) := Lib.hid fun W hb => ⟨hT.below hb, maxI_below hI hb⟩
  have HAW : Hid (∀ W, Below w.heap.size w W → Calls Tryd.prog 9 #[] W fun e w' => e = .returned (.bool true) ∧ Below W.heap.size W w') := Lib.hid fun W hb => iawake_any W (HT.out W hb).1 (HT.out W hb).2
  have w1 : IntKind.i64.wrap ((T.size : Int) + 1) = (T.size : Int) + 1 := IntWalk.i64_in _ (by omega)
  obtain ⟨p0, p1⟩ := pickI_in (c := at_) (n := (T.size : Int) + 1) (by omega)
  obtain ⟨K, hK⟩ : ∃ K : Nat, pickI at_ ((T.size : Int) + 1) = K := ⟨(pickI at_ ((T.size : Int) + 1)).toNat, by omega⟩
  have hKT : K ≤ T.size := by omega
  have HPK : Hid (∀ W, Calls Tryd.prog 13 #[.int .i64 at_, .int .i64 ((T.size : Int) + 1)] W fun e w' => e = .returned (.int .i64 K) ∧ W = w') := Lib.hid fun W => by
    have := ipick_any at_ ((T.size : Int) + 1) W (by omega) (by omega) ha.1 ha.2
    rw [hK] at this
    exact this
  obtain ⟨T1, hT1⟩ : ∃ T1, T.extract 0 K = T1 := ⟨_, rfl⟩
  obtain ⟨T2, hT2⟩ : ∃ T2, T.extract K T.size = T2 := ⟨_, rfl⟩
  have hz1 : T1.size ≤ 8000 := by rw [← hT1]; simp; omega
  have hz2 : T2.size ≤ 8000 := by rw [← hT2]; simp; omega
  have hs1 : ∀ W : World, (Instr.slice 9 (.string T) none (some (.int .i64 (K : Int))) none).run Tryd.prog W = .ok (.string T1) W := fun W => by
    rw [run_slice_string_to_if (h := Tryd.underlying9), if_pos (by omega), ← hT1]
    congr 3
  have hs2 : ∀ W : World, (Instr.slice 9 (.string T) (some (.int .i64 (K : Int))) none none).run Tryd.prog W = .ok (.string T2) W := fun W => by
    rw [run_slice_string_from_if (h := Tryd.underlying9), if_pos (by omega), ← hT2]
    congr 3
  obtain ⟨u, hu⟩ := near_conv by_
  obtain ⟨V, hV⟩ : ∃ V : Int, (u.toNat : Int) = V := ⟨_, rfl⟩
  obtain ⟨BB, hBB⟩ : ∃ BB : ByteArray, (⟨#[u]⟩ : ByteArray) = BB := ⟨_, rfl⟩
  have hbz : BB.size ≤ 1 := by rw [← hBB]; exact Nat.le_refl 1
  have hcb : ∀ (W : World) (t : TypeId), (convert 32 9 (.slice (some ⟨W.heap.size, 0, none⟩) 1 1)).run Tryd.prog (W.alloc (Obj.cells #[.int .u8 V] t)).drew = .ok (.string BB) (W.alloc (Obj.cells #[.int .u8 V] t)).drew := fun W t => by
    have := near_byte u W t
    rw [hV, hBB] at this
    exact this
  rw [hV] at hu
  have zs : (⟨#[10]⟩ : ByteArray).size = 1 := rfl
  have j1 : ¬ 9223372036854775807 < T1.size + BB.size := by omega
  have j2 : ¬ 9223372036854775807 < T1.size + BB.size + T2.size := by omega
  have j3 : ¬ 9223372036854775807 < T1.size + s.size := by omega
  have j4 : ¬ 9223372036854775807 < T1.size + s.size + 1 := by omega
  have j5 : ¬ 9223372036854775807 < T1.size + s.size + 1 + T2.size := by omega
  have j6 : ¬ 9223372036854775807 < T1.size + 1 := by omega
  have j7 : ¬ 9223372036854775807 < T1.size + 1 + s.size := by omega
  have j8 : ¬ 9223372036854775807 < T1.size + 1 + s.size + T2.size := by omega
  have HXS : Hid (∀ x ∈ [T, T1, (T1 ++ BB) ++ T2, ((T1 ++ s) ++ (⟨#[10]⟩ : ByteArray)) ++ T2, ((T1 ++ (⟨#[10]⟩ : ByteArray)) ++ s) ++ T2], x.size ≤ 4294967280) := Lib.hid (by
    intro x hx
    simp only [List.mem_cons, List.not_mem_nil, or_false] at hx
    rcases hx with rfl | rfl | rfl | rfl | rfl <;> (try simp only [ByteArray.size_append]) <;> omega)
  have q0 : (0 : Int) ≤ K := by omega
  clear hA hS1 hS2 hc hm hz ha hAi hT1 hT2 hV hBB hL hT hI hb1 hb2 hwA hwA2 hF hlen hrp p0 p1 hK
  rw [hN]
  by_cases hk : K = T.size
  · have q1 : ¬ (K : Int) < T.size := by omega
    clear hk hKT
    go_enter Tryd.func4, Tryd.ntmps4
    go_wp2_with fail
    refine (HWL.out _ (Below.refl _ _)).mono ?_
    rintro e w1 ⟨rfl, hb⟩
    have HB1 := Lib.hid hb
    clear hb
    go_wp2_with fail
    refine (HWL.out _ HB1.out).mono ?_
    rintro e w2 ⟨rfl, hb⟩
    have HB2 := Lib.hid (HB1.out.trans (hb.mono HB1.out.size))
    clear hb
    go_wp2_with fail
    refine (HA1.out _).mono ?_
    rintro e w' ⟨rfl, rfl⟩
    go_wp2_with fail
    refine (HWL.out _ HB2.out).mono ?_
    rintro e w3 ⟨rfl, hb⟩
    have HB3 := Lib.hid (HB2.out.trans (hb.mono HB2.out.size))
    clear hb
    go_wp2_with fail
    refine (HA2.out _).mono ?_
    rintro e w' ⟨rfl, rfl⟩
    go_wp2_with fail
    refine (HAW.out _ HB3.out).mono ?_
    rintro e w4 ⟨rfl, hb⟩
    have HB4 := Lib.hid (HB3.out.trans (hb.mono HB3.out.size))
    clear hb
    go_wp2_with fail
    refine (HRP.out _ _ _ (HLX.out _ HB4.out) HC.out).mono ?_
    rintro e w5 ⟨rfl, hb⟩
    have HB5 := Lib.hid (HB4.out.trans (hb.mono HB4.out.size))
    clear hb
    go_wp2_with fail
    refine (HPK.out _).mono ?_
    rintro e w' ⟨rfl, rfl⟩
    have HD := Lib.hid (near_lit w w5 HB5.out V [T, T1, (T1 ++ BB) ++ T2, ((T1 ++ s) ++ (⟨#[10]⟩ : ByteArray)) ++ T2, ((T1 ++ (⟨#[10]⟩ : ByteArray)) ++ s) ++ T2] #[.string T, .string T1, .string ((T1 ++ BB) ++ T2), .string (((T1 ++ s) ++ (⟨#[10]⟩ : ByteArray)) ++ T2), .string (((T1 ++ (⟨#[10]⟩ : ByteArray)) ++ s) ++ T2)] rfl 5 rfl (by omega) 5)
    clear HB1 HB2 HB3 HB4 HB5 HWL HA1 HA2 HAW HRP HPK
    go_wp2_with fail
    go_region
    generalize ((w5.alloc (Obj.cells #[.int .u8 V] 5)).alloc (Obj.cells #[.string T, .string T1, .string ((T1 ++ BB) ++ T2), .string (((T1 ++ s) ++ (⟨#[10]⟩ : ByteArray)) ++ T2), .string (((T1 ++ (⟨#[10]⟩ : ByteArray)) ++ s) ++ T2)] 9)).drew = D at HD ⊢
    generalize w5.heap.size + 1 = G at HD ⊢
    have HPS := Lib.hid (near_row D [T, T1, (T1 ++ BB) ++ T2, ((T1 ++ s) ++ (⟨#[10]⟩ : ByteArray)) ++ T2, ((T1 ++ (⟨#[10]⟩ : ByteArray)) ++ s) ++ T2] G 5 5 rfl (HT.out _ HD.out.1).1 (HT.out _ HD.out.1).2 (fun k h => by
      rw [HD.out.2.cellAt k (by simpa using h), List.getElem?_map, List.getElem?_eq_getElem h]
      rfl) (by simp) (by simp) HXS.out)
    go_wp2_with fail
    refine HPS.out.mono ?_
    rintro e w7 ⟨rfl, hb⟩
    have HB7 := Lib.hid (HD.out.1.trans (hb.mono HD.out.1.size))
    clear hb
    go_wp2
    go_ret
    exact ⟨rfl, HB7.out⟩
  · have q1 : (K : Int) < T.size := by omega
    obtain ⟨T3, hT3⟩ : ∃ T3, T.extract (K + 1) T.size = T3 := ⟨_, rfl⟩
    have hz3 : T3.size ≤ 8000 := by rw [← hT3]; simp; omega
    have hs3 : ∀ W : World, (Instr.slice 9 (.string T) (some (.int .i64 ((K : Int) + 1))) none none).run Tryd.prog W = .ok (.string T3) W := fun W => by
      rw [run_slice_string_from_if (h := Tryd.underlying9), if_pos (by omega), ← hT3]
      congr 3
    have w2 : IntKind.i64.wrap ((K : Int) + 1) = (K : Int) + 1 := IntWalk.i64_in _ (by omega)
    have j9 : ¬ 9223372036854775807 < T1.size + T3.size := by omega
    have j10 : ¬ 9223372036854775807 < T1.size + BB.size + T3.size := by omega
    have HXT : Hid (∀ x ∈ [T, T1, (T1 ++ BB) ++ T2, ((T1 ++ s) ++ (⟨#[10]⟩ : ByteArray)) ++ T2, ((T1 ++ (⟨#[10]⟩ : ByteArray)) ++ s) ++ T2] ++ [T1 ++ T3, (T1 ++ BB) ++ T3], x.size ≤ 4294967280) := Lib.hid (by
      intro x hx
      rcases List.mem_append.1 hx with hx | hx
      · exact HXS.out x hx
      · simp only [List.mem_cons, List.not_mem_nil, or_false] at hx
        rcases hx with rfl | rfl <;> (try simp only [ByteArray.size_append]) <;> omega)
    clear hk hKT hT3
    go_enter Tryd.func4, Tryd.ntmps4
    go_wp2_with fail
    refine (HWL.out _ (Below.refl _ _)).mono ?_
    rintro e w1 ⟨rfl, hb⟩
    have HB1 := Lib.hid hb
    clear hb
    go_wp2_with fail
    refine (HWL.out _ HB1.out).mono ?_
    rintro e w2 ⟨rfl, hb⟩
    have HB2 := Lib.hid (HB1.out.trans (hb.mono HB1.out.size))
    clear hb
    go_wp2_with fail
    refine (HA1.out _).mono ?_
    rintro e w' ⟨rfl, rfl⟩
    go_wp2_with fail
    refine (HWL.out _ HB2.out).mono ?_
    rintro e w3 ⟨rfl, hb⟩
    have HB3 := Lib.hid (HB2.out.trans (hb.mono HB2.out.size))
    clear hb
    go_wp2_with fail
    refine (HA2.out _).mono ?_
    rintro e w' ⟨rfl, rfl⟩
    go_wp2_with fail
    refine (HAW.out _ HB3.out).mono ?_
    rintro e w4 ⟨rfl, hb⟩
    have HB4 := Lib.hid (HB3.out.trans (hb.mono HB3.out.size))
    clear hb
    go_wp2_with fail
    refine (HRP.out _ _ _ (HLX.out _ HB4.out) HC.out).mono ?_
    rintro e w5 ⟨rfl, hb⟩
    have HB5 := Lib.hid (HB4.out.trans (hb.mono HB4.out.size))
    clear hb
    go_wp2_with fail
    refine (HPK.out _).mono ?_
    rintro e w' ⟨rfl, rfl⟩
    have HD := Lib.hid (near_lit w w5 HB5.out V [T, T1, (T1 ++ BB) ++ T2, ((T1 ++ s) ++ (⟨#[10]⟩ : ByteArray)) ++ T2, ((T1 ++ (⟨#[10]⟩ : ByteArray)) ++ s) ++ T2] #[.string T, .string T1, .string ((T1 ++ BB) ++ T2), .string (((T1 ++ s) ++ (⟨#[10]⟩ : ByteArray)) ++ T2), .string (((T1 ++ (⟨#[10]⟩ : ByteArray)) ++ s) ++ T2)] rfl 5 rfl (by omega) 5)
    clear HB1 HB2 HB3 HB4 HB5 HWL HA1 HA2 HAW HRP HPK
    go_wp2_with fail
    go_region
    generalize ((w5.alloc (Obj.cells #[.int .u8 V] 5)).alloc (Obj.cells #[.string T, .string T1, .string ((T1 ++ BB) ++ T2), .string (((T1 ++ s) ++ (⟨#[10]⟩ : ByteArray)) ++ T2), .string (((T1 ++ (⟨#[10]⟩ : ByteArray)) ++ s) ++ T2)] 9)).drew = D at HD ⊢
    generalize w5.heap.size + 1 = G at HD ⊢
    have HAP : Hid (∃ g cap W', (Builtin.append_ #[25, 25] 25 #[.slice (some ⟨G, 0, none⟩) 5 5, .slice (some ⟨D.heap.size + 1, 0, none⟩) 2 2]).run Tryd.prog ((D.alloc (Obj.cells #[.int .u8 V] 5)).alloc (Obj.cells #[.string (T1 ++ T3), .string ((T1 ++ BB) ++ T3)] 9)).drew = .ok (.slice (some ⟨g, 0, none⟩) 7 cap) W' ∧ Below w.heap.size w W' ∧
        ∀ k (h : k < ([T, T1, (T1 ++ BB) ++ T2, ((T1 ++ s) ++ (⟨#[10]⟩ : ByteArray)) ++ T2, ((T1 ++ (⟨#[10]⟩ : ByteArray)) ++ s) ++ T2] ++ [T1 ++ T3, (T1 ++ BB) ++ T3]).length), W'.cell? ⟨g, k, none⟩ = some (.string ([T, T1, (T1 ++ BB) ++ T2, ((T1 ++ s) ++ (⟨#[10]⟩ : ByteArray)) ++ T2, ((T1 ++ (⟨#[10]⟩ : ByteArray)) ++ s) ++ T2] ++ [T1 ++ T3, (T1 ++ BB) ++ T3])[k])) := Lib.hid (by
      have hl := near_lit w D HD.out.1 V [T1 ++ T3, (T1 ++ BB) ++ T3] #[.string (T1 ++ T3), .string ((T1 ++ BB) ++ T3)] rfl 2 rfl (by omega) 5
      exact near_grow w _ G 5 (D.heap.size + 1) [T, T1, (T1 ++ BB) ++ T2, ((T1 ++ s) ++ (⟨#[10]⟩ : ByteArray)) ++ T2, ((T1 ++ (⟨#[10]⟩ : ByteArray)) ++ s) ++ T2] [T1 ++ T3, (T1 ++ BB) ++ T3] hl.1 5 2 rfl rfl ((HD.out.2.alloc _).alloc _).drew (fun j u hj => by
        have hj2 : j < 2 := by have := (List.getElem?_eq_some_iff.1 hj).1; simpa using this
        rw [hl.2.cellAt j (by omega)]; exact hj) (by omega) (by omega))
    obtain ⟨g, cap, w8, hr8, hb8, hc8⟩ := HAP.out
    have HB8 := Lib.hid hb8
    have HPS := Lib.hid (near_row w8 ([T, T1, (T1 ++ BB) ++ T2, ((T1 ++ s) ++ (⟨#[10]⟩ : ByteArray)) ++ T2, ((T1 ++ (⟨#[10]⟩ : ByteArray)) ++ s) ++ T2] ++ [T1 ++ T3, (T1 ++ BB) ++ T3]) g 7 cap rfl (HT.out _ hb8).1 (HT.out _ hb8).2 hc8 (by simp) (by simp) HXT.out)
    clear hb8 hc8 HAP
    go_wp2_with fail
    go_region_law (refine near_append_eq rfl _ _ _ _ rfl _ _ _ rfl rfl hr8 ?_)
    go_wp2_with fail
    refine HPS.out.mono ?_
    rintro e w7 ⟨rfl, hb⟩
    have HB9 := Lib.hid (HB8.out.trans (hb.mono HB8.out.size))
    clear hb
    go_wp2
    go_ret
    exact ⟨rfl, HB9.out⟩
end Go.Proofs.YtbpbiakdigjcnaaDoor
