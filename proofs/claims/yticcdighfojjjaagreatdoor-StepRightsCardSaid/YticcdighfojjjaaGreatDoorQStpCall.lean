/-
  StpCall.
-/
import Derived.Test.YticcdighfojjjaaGreatDoorQStpFuncs
import Derived.Test.YticcdighfojjjaaGreatDoorQGlyphFold
namespace Go.Proofs.YticcdighfojjjaaGreatDoor
open Go.ChangeShapes Go.WideShapes Go.ChangeAt Go.RowKit

/-- A row of which the first k are of one list, the others of another one. -/
def mixL (a b : List UInt8) (k : Nat) : List UInt8 := a.take k ++ b.drop k
section
variable {a b : List UInt8} {k : Nat}
theorem mix_len (h : a.length = b.length) : (mixL a b k).length = b.length := by unfold mixL; simp; omega
theorem mix_zero : mixL a b 0 = b := by simp [mixL]
theorem mix_all (h : a.length = b.length) (hk : b.length ≤ k) : mixL a b k = a := by
  unfold mixL; rw [List.take_of_length_le (by omega), List.drop_eq_nil_of_le hk, List.append_nil]
theorem mix_at (h : a.length = b.length) (hk : k < b.length) : (mixL a b k)[k]'(by rw [mix_len h]; exact hk) = b[k] := by
  simp only [mixL]
  rw [List.getElem_append_right (by simp; omega)]
  simp [show k - min k a.length = 0 by omega]
theorem mix_set (h : a.length = b.length) (hk : k < b.length) : (mixL a b k).set k (a[k]'(by omega)) = mixL a b (k + 1) := by
  unfold mixL
  have hl : (a.take k).length = k := by simp; omega
  rw [List.set_append_right _ _ (by omega), hl, Nat.sub_self, List.drop_eq_getElem_cons hk, List.set_cons_zero]
  have e : a.take (k + 1) = a.take k ++ [a[k]'(by omega)] := by rw [List.take_add_one, List.getElem?_eq_getElem (by omega)]; rfl
  rw [e, List.append_assoc]; rfl
theorem mix_same (h : a.length = b.length) (hk : k < b.length) (e : a[k]'(by omega) = b[k]) : mixL a b k = mixL a b (k + 1) := by
  rw [← mix_set h hk, e]
  apply List.ext_getElem (by simp)
  intro j h1 h2
  rw [List.getElem_set]
  split
  · rename_i e2; subst e2; exact mix_at h hk
  · rfl
theorem mix_cell {wr : World} {g : Nat} (hr : Row8 wr g (mixL a b k)) (h : a.length = b.length) (hk : k < b.length) : wr.cell? ⟨g, k, none⟩ = some (.int .u8 (b[k].toNat : Int)) ∧ wr.frozen? ⟨g, k, none⟩ = false := by
  obtain ⟨h1, h2⟩ := hr k (by rw [mix_len h]; exact hk)
  rw [mix_at h hk] at h1
  exact ⟨h1, h2⟩
theorem mix_put {wr : World} {g : Nat} (hr : Row8 wr g (mixL a b k)) (h : a.length = b.length) (hk : k < b.length) (x : Int) (hx : x = ((a[k]'(by omega)).toNat : Int)) : Row8 (wr.setCell ⟨g, k, none⟩ (.int .u8 x)) g (mixL a b (k + 1)) := by
  subst hx
  rw [← mix_set h hk]
  exact hr.set k _
end
/-- Bytes that lie somewhere in a block. -/
def BLies (w : World) (g : Nat) (v : Value) (l : List UInt8) : Prop := ∃ off cap, v = .slice (some ⟨g, off, none⟩) l.length cap ∧ l.length ≤ cap ∧ ∀ j (hj : j < l.length), w.cell? ⟨g, off + j, none⟩ = some (.int .u8 (l[j].toNat : Int))
theorem addr_atS (g o j : Nat) : (⟨g, o, none⟩ : Addr).add j = ⟨g, o + j, none⟩ := by unfold Addr.add; split <;> simp_all
theorem elem8S : Tryz.prog.underlying 59 = some (.slice (Tryz.prog.elem 59)) := by kernel_rfl
theorem size8S (w : World) : (sizeOf (Tryz.prog.elem 59)).run Tryz.prog w = .ok 1 w := by kernel_rfl
theorem BLies.take {w : World} {g : Nat} {v : Value} {l : List UInt8} (h : BLies w g v l) {k : Nat} (hk : k ≤ l.length) :
    ∃ v', (∀ W, (Instr.slice 59 v none (some (.int .i64 k)) none).run Tryz.prog W = .ok v' W) ∧ BLies w g v' (l.take k) := by
  obtain ⟨off, cap, rfl, h2, h3⟩ := h
  refine ⟨_, fun W => by rw [run_slice_h W _ _ _ _ elem8S .i64 k (by omega) (by omega), size8S]; rfl, off, cap, ?_, ?_, ?_⟩
  · have : (l.take k).length = k := by rw [List.length_take]; omega
    rw [this]
    simp only [sliced]
    split <;> simp [Addr.add]
  · rw [List.length_take]; omega
  · intro j hj
    rw [List.length_take] at hj
    rw [h3 j (by omega)]; simp
theorem BLies.drop {w : World} {g : Nat} {v : Value} {l : List UInt8} (h : BLies w g v l) {k : Nat} (hk : k ≤ l.length) :
    ∃ v', (∀ W, (Instr.slice 59 v (some (.int .i64 k)) none none).run Tryz.prog W = .ok v' W) ∧ BLies w g v' (l.drop k) := by
  obtain ⟨off, cap, rfl, h2, h3⟩ := h
  by_cases hc : cap = k
  · refine ⟨_, fun W => by rw [run_slice_l W _ _ _ _ elem8S .i64 k (by omega) (by omega), size8S]; rfl, off, cap - k, ?_, ?_, ?_⟩
    · rw [List.length_drop]
      simp only [sliced]
      rw [if_pos (by omega)]; simp
    · rw [List.length_drop]; omega
    · intro j hj
      rw [List.length_drop] at hj
      omega
  · refine ⟨_, fun W => by rw [run_slice_l W _ _ _ _ elem8S .i64 k (by omega) (by omega), size8S]; rfl, off + k, cap - k, ?_, ?_, ?_⟩
    · rw [List.length_drop]
      simp only [sliced]
      rw [if_neg (by omega)]; simp [addr_atS]
    · rw [List.length_drop]; omega
    · intro j hj
      rw [List.length_drop] at hj
      rw [Nat.add_assoc, h3 (k + j) (by omega)]; simp
theorem BLies.back {w : World} {g : Nat} {v : Value} {l : List UInt8} (h : BLies w g v l) : (convert 59 9 v).run Tryz.prog w = .ok (.string (mkB l)) w := by
  obtain ⟨off, cap, rfl, h2, h3⟩ := h
  exact run_convert_bytes_back w 59 9 5 ⟨g, off, none⟩ cap l Tryz.underlying59 Tryz.underlying5 Tryz.underlying9 fun j hj => by rw [addr_atS]; exact h3 j hj
def slotLen : Value → Nat
  | .slice _ n _ => n
  | _ => 0
/-- The five names, and each of them known. -/
theorem funcs_len (f : ByteArray) (h : f ∈ funcsB) : f.size ≤ 7 := by
  unfold funcsB at h
  simp only [List.mem_cons, List.not_mem_nil, or_false] at h
  rcases h with rfl | rfl | rfl | rfl | rfl <;> decide
def funcCells : Array Value := #[.string ⟨#[100, 111, 117, 98, 108, 101]⟩, .string ⟨#[108, 111, 119, 101, 114]⟩, .string ⟨#[114, 101, 118, 101, 114, 115, 101]⟩, .string ⟨#[116, 114, 105, 109]⟩, .string ⟨#[117, 112, 112, 101, 114]⟩]
theorem funcs_cells : (funcsB.map Value.string).toArray = funcCells := by rfl
theorem sfuncs_any (w : World) : Calls Tryz.prog 13 #[] w fun e w' => e = .returned (.slice (some ⟨w.heap.size, 0, none⟩) 5 5) ∧ w' = w.alloc (Obj.cells funcCells 9) := by
  unfold funcCells
  go_enter Tryz.func13, Tryz.ntmps13
  go_wp2
  go_ret
  exact ⟨rfl, rfl⟩
theorem known_no {n : ByteArray} (h : ∀ j (hj : j < funcsB.length), eqB funcsB[j] n = false) : knownB n = false := by
  unfold knownB
  rw [List.any_eq_false]
  intro f hf
  obtain ⟨j, hj, rfl⟩ := List.getElem_of_mem hf
  rw [h j hj]; simp
theorem known_yes {n : ByteArray} {j : Nat} (hj : j < funcsB.length) (h : eqB funcsB[j] n = true) : knownB n = true := by
  unfold knownB
  rw [List.any_eq_true]
  exact ⟨_, List.getElem_mem hj, h⟩
set_option maxHeartbeats 1600000 in
theorem sknown_any (n : ByteArray) (w : World) :
    Calls Tryz.prog 31 #[.string n] w fun e w' => e = .returned (.bool (knownB n)) ∧ Below w.heap.size w w' := by
  have HB : Hid (Below w.heap.size w (w.alloc (Obj.cells funcCells 9))) := Lib.hid (below_one _ _)
  have HC : Hid (∀ j (hj : j < funcsB.length), (w.alloc (Obj.cells funcCells 9)).cell? ⟨w.heap.size, j, none⟩ = some (.string funcsB[j])) := Lib.hid fun j hj => by
    rw [cell_of_row _ _ j _ _ _ (heap_alloc_new w _), ← funcs_cells]; simp [hj]
  have hfl : funcsB.length = 5 := rfl
  go_enter Tryz.func31, Tryz.ntmps31
  go_wp2_with (go_at_call 13; refine (sfuncs_any _).mono ?_; rintro e w' ⟨rfl, rfl⟩)
  generalize w.alloc (Obj.cells funcCells 9) = w1 at HB HC ⊢
  generalize w.heap.size = g at HC ⊢
  go_loop [4] (fun i => ∃ t : Nat, i = .int .i64 t ∧ t ≤ 5 ∧ Hid (∀ j (hj : j < funcsB.length), j < t → eqB funcsB[j] n = false)) (fun i => 5 - (intOf i).toNat)
  case atStart => exact ⟨0, rfl, by omega, Lib.hid fun j _ hj => by omega⟩
  case round =>
    obtain ⟨t, rfl, ht, HI⟩ := hrel
    by_cases hlt : t < 5
    · have htx : t < funcsB.length := by omega
      have c0 := HC.out t htx
      have HQ : Hid (eqB (funcsB[t]'(by omega)) n = ((funcsB[t]'(by omega)).toList == n.toList)) := Lib.hid rfl
      have HX := Lib.hid htx
      generalize hq : funcsB[t] = q at c0
      have HE : Hid (eqB (funcsB[t]'HX.out) n = (q.toList == n.toList)) := Lib.hid (by rw [show (funcsB[t]'HX.out) = q from hq]; rfl)
      have q1 : (0 : Int) ≤ t := by omega
      have q2 : (t : Int) < 5 := by omega
      clear htx HQ hq
      cases h1 : (q.toList == n.toList) with
      | true =>
        have HF : Hid (knownB n = true) := Lib.hid (known_yes HX.out (by rw [HE.out, h1]))
        clear HI HE
        go_wp2
        go_ret
        exact ⟨by rw [HF.out]; rfl, HB.out⟩
      | false =>
        have H2 : Hid (∀ j (hj : j < funcsB.length), j < t + 1 → eqB funcsB[j] n = false) := Lib.hid fun j hj hj2 => by
          rcases Nat.lt_or_ge j t with h | h
          · exact HI.out j hj h
          · obtain rfl : j = t := by omega
            rw [HE.out, h1]
        clear HI HE
        go_wp2
        go_round
        case rel => exact ⟨t + 1, by go_num, by omega, H2⟩
        case measure => simp [intOf]; omega
    · have HF : Hid (knownB n = false) := Lib.hid (known_no fun j hj => HI.out j hj (by omega))
      have q2 : ¬ (t : Int) < 5 := by omega
      clear HI
      go_wp2
      go_ret
      exact ⟨by rw [HF.out]; rfl, HB.out⟩
theorem raise_in {c : UInt8} (h : 97 ≤ c.toNat ∧ c.toNat ≤ 122) : ((raiseB c).toNat : Int) = c.toNat - 32 := by
  unfold raiseB
  rw [if_pos h, UInt8.toNat_sub_of_le _ _ (by rw [UInt8.le_iff_toNat_le]; show 32 ≤ c.toNat; omega)]
  show ((c.toNat - 32 : Nat) : Int) = _
  omega
theorem raise_out {c : UInt8} (h : ¬ (97 ≤ c.toNat ∧ c.toNat ≤ 122)) : raiseB c = c := if_neg h
theorem raise_len (l : List UInt8) : (raiseL l).length = l.length := by unfold raiseL; simp
theorem raise_at (l : List UInt8) (k : Nat) (h : k < l.length) : (raiseL l)[k]'(by rw [raise_len]; exact h) = raiseB l[k] := by unfold raiseL; simp
theorem dw_cons_yes {c : UInt8} {r : List UInt8} (h : blankC c = true) : (c :: r).dropWhile blankC = r.dropWhile blankC := by simp [h]
theorem dw_cons_no {c : UInt8} {r : List UInt8} (h : blankC c = false) : (c :: r).dropWhile blankC = c :: r := by simp [h]
theorem last_rev {m : List UInt8} {n : Nat} (hn : m.length = n + 1) : m.reverse = m[n] :: (m.take n).reverse := by
  have h1 : m = m.take n ++ [m[n]] := by
    conv => lhs; rw [← List.take_append_drop n m, List.drop_eq_getElem_cons (by omega), List.drop_eq_nil_of_le (by omega)]
  conv => lhs; rw [h1]
  rw [List.reverse_append]; rfl
set_option maxHeartbeats 3200000 in
set_option maxRecDepth 100000 in
theorem scall_any (n s : ByteArray) (w : World) (hs : s.size ≤ maxLen) :
    Calls Tryz.prog 15 #[.string n, .string s] w fun e w' => e = .returned (.tuple #[.string (callV n s).1, .int .i64 (callV n s).2]) ∧ Below w.heap.size w w' := by
  have hmx : maxLen = 9223372036854775807 := by decide
  have HKN : Hid (∀ W, Calls Tryz.prog 31 #[.string n] W fun e w' => e = .returned (.bool (knownB n)) ∧ Below W.heap.size W w') := Lib.hid fun W => sknown_any n W
  have hl := data_len s
  cases hk : knownB n with
  | false =>
    have hv : callV n s = (emB, 160) := by unfold callV; rw [if_pos hk]
    rw [hv]
    rw [hk] at HKN
    clear hk hv hs hmx hl
    go_enter Tryz.func15, Tryz.ntmps15
    go_wp2_with (go_at_call 31; refine (HKN.out _).mono ?_; rintro e w' ⟨rfl, hb⟩)
    go_ret2
    exact ⟨rfl, hb⟩
  | true =>
    rw [hk] at HKN
    by_cases hbig : 200 < s.size
    · have hv : callV n s = (emB, 162) := by unfold callV; rw [if_neg (by simp [hk]), if_pos hbig]
      rw [hv]
      clear hk hv hs hmx hl
      go_enter Tryz.func15, Tryz.ntmps15
      go_wp2_with (go_at_call 31; refine (HKN.out _).mono ?_; rintro e w' ⟨rfl, hb⟩)
      go_ret2
      exact ⟨rfl, hb⟩
    · rw [call_of hk (by omega)]
      have hsm : ¬ (200 : Int) < s.size := by omega
      have HCV : Hid (∀ W : World, ∃ cap W1, (convert 9 59 (.string s)).run Tryz.prog W = .ok (.slice (some ⟨W.heap.size, 0, none⟩) s.size cap) W1 ∧ Row8 W1 W.heap.size s.data.toList ∧ Below W.heap.size W W1 ∧ W.heap.size < W1.heap.size ∧ s.size ≤ cap) := Lib.hid fun W => toBytes (P := Tryz.prog) 9 59 5 W s Tryz.underlying9 Tryz.underlying59 Tryz.underlying5
      have HDB := Lib.hid (fun W => sdouble_any s W hs)
      have HFL := Lib.hid (fun W => refFold_any s W hs)
      have HLN := Lib.hid hl
      have hs200 : s.size ≤ 200 := by omega
      rcases known_cases hk with e | e | e | e | e
      · have hv : funcV n s.data.toList = doubleV s.data.toList := by rw [e, func_dbl]
        have f1 : (n.toList == [100, 111, 117, 98, 108, 101]) = true := by rw [e, Lib.toList_data]; decide
        rw [hv]
        clear e hv hk hs hmx hl HFL hbig
        go_enter Tryz.func15, Tryz.ntmps15
        go_wp2_with (first
          | (go_at_call 31; refine (HKN.out _).mono ?_; rintro e w1 ⟨rfl, hb⟩; obtain ⟨cap, W1, hcv, hrow, hb2, _, hcap⟩ := HCV.out w1; have HB2 := Lib.hid (hb.trans (hb2.mono hb.size)); clear hrow hb2 hb)
          | (go_at_call 32; refine (HDB.out _).mono ?_; rintro e w2 ⟨rfl, hb3⟩))
        go_ret2
        exact ⟨rfl, HB2.out.trans (hb3.mono HB2.out.size)⟩
      · have hv : funcV n s.data.toList = (mkB (foldL s.data.toList), 0) := by rw [e, func_low]
        have f1 : (n.toList == [100, 111, 117, 98, 108, 101]) = false := by rw [e, Lib.toList_data]; decide
        have f2 : (n.toList == [108, 111, 119, 101, 114]) = true := by rw [e, Lib.toList_data]; decide
        rw [hv]
        clear e hv hk hs hmx hl HDB hbig
        unfold str at HFL
        go_enter Tryz.func15, Tryz.ntmps15
        go_wp2_with (first
          | (go_at_call 31; refine (HKN.out _).mono ?_; rintro e w1 ⟨rfl, hb⟩; obtain ⟨cap, W1, hcv, hrow, hb2, _, hcap⟩ := HCV.out w1; have HB2 := Lib.hid (hb.trans (hb2.mono hb.size)); clear hrow hb2 hb)
          | (go_at_call 33; refine (HFL.out _).mono ?_; rintro e w2 ⟨rfl, hb3⟩))
        go_ret2
        exact ⟨rfl, HB2.out.trans (hb3.mono HB2.out.size)⟩
      · have hv : funcV n s.data.toList = (mkB s.data.toList.reverse, 0) := by rw [e, func_rev]
        have f1 : (n.toList == [100, 111, 117, 98, 108, 101]) = false := by rw [e, Lib.toList_data]; decide
        have f2 : (n.toList == [108, 111, 119, 101, 114]) = false := by rw [e, Lib.toList_data]; decide
        have f3 : (n.toList == [114, 101, 118, 101, 114, 115, 101]) = true := by rw [e, Lib.toList_data]; decide
        rw [hv]
        have HAL : Hid (s.data.toList.reverse.length = s.data.toList.length) := Lib.hid (by simp)
        have HAK : Hid (∀ k m (h1 : k < s.size) (h2 : m < s.size), m + k + 1 = s.size → (s[m].toNat : Int) = ((s.data.toList.reverse[k]'(by simpa using h1)).toNat : Int)) := Lib.hid (by
          intro k m h1 h2 h3
          rw [List.getElem_reverse]
          congr 2
          show s[m] = s.data.toList[s.data.toList.length - 1 - k]
          have : s.data.toList.length - 1 - k = m := by omega
          simp only [this]; rfl)
        clear e hv hk hs hmx hl HDB HFL hbig
        go_enter Tryz.func15, Tryz.ntmps15
        go_wp2_with (go_at_call 31; refine (HKN.out _).mono ?_; rintro e w1 ⟨rfl, hb⟩; obtain ⟨cap, W1, hcv, hrow, hb2, hlt2, hcap⟩ := HCV.out w1; have HB2 := Lib.hid (hb.trans (hb2.mono hb.size)); have HR := Lib.hid hrow; have HZ := Lib.hid hlt2; have HWB := Lib.hid hb.size; clear hrow hb2 hb hlt2)
        clear hcv HCV HKN
        generalize w1.heap.size = g at HR HZ HWB ⊢
        go_loopw [8] (fun i wr => ∃ k : Nat, k ≤ s.size ∧ i = .int .i64 k ∧ Hid (Row8 wr g (mixL s.data.toList.reverse s.data.toList k) ∧ Below w.heap.size w wr)) (fun i _ => s.size - (intOf i).toNat)
        case atStart => exact ⟨0, by omega, rfl, Lib.hid ⟨by rw [mix_zero]; exact HR.out, HB2.out⟩⟩
        case round =>
          clear HR HB2
          obtain ⟨k, hk, rfl, HI⟩ := hrel
          by_cases hlt : k < s.size
          · obtain ⟨m, hm⟩ : ∃ m, m + k + 1 = s.size := ⟨s.size - 1 - k, by omega⟩
            have hml : m < s.size := by omega
            obtain ⟨hc1, hc2⟩ := mix_cell HI.out.1 HAL.out (by rw [HLN.out]; exact hlt)
            have HP : Hid (Row8 (wr.setCell ⟨g, k, none⟩ (.int .u8 (s[m].toNat : Int))) g (mixL s.data.toList.reverse s.data.toList (k + 1)) ∧ Below w.heap.size w (wr.setCell ⟨g, k, none⟩ (.int .u8 (s[m].toNat : Int)))) := Lib.hid ⟨mix_put HI.out.1 HAL.out (by rw [HLN.out]; exact hlt) _ (HAK.out k m hlt hml hm), HI.out.2.setCell (p := ⟨g, k, none⟩) HWB.out _⟩
            have q1 : (0 : Int) ≤ k := by omega
            have q2 : (k : Int) < s.size := by omega
            have w5 : IntKind.i64.wrap ((s.size : Int) - 1) = (s.size : Int) - 1 := IntWalk.i64_in _ (by omega)
            have w6 : IntKind.i64.wrap ((s.size : Int) - 1 - k) = (m : Int) := by rw [IntWalk.i64_in _ (by omega)]; omega
            have q3 : (0 : Int) ≤ m := by omega
            have q4 : (m : Int) < s.size := by omega
            clear HI hm
            generalize (s.data.toList[k]'(by rw [HLN.out]; exact hlt)).toNat = z at hc1
            go_wp2
            go_roundw
            case rel => exact ⟨k + 1, by omega, by go_num, HP⟩
            case measure => simp [intOf]; omega
          · have q2 : ¬ (k : Int) < s.size := by omega
            have hback := ofBytes (P := Tryz.prog) 9 59 5 wr g cap s.size s.data.toList.reverse (by rw [HAL.out, HLN.out]) Tryz.underlying9 Tryz.underlying59 Tryz.underlying5 (by have := HI.out.1; rwa [mix_all HAL.out (by rw [HLN.out]; omega)] at this)
            have HBE := Lib.hid HI.out.2
            have HMK : Hid ((⟨s.data.toList.reverse.toArray⟩ : ByteArray) = mkB s.data.toList.reverse) := Lib.hid rfl
            rw [HMK.out] at hback
            obtain ⟨OUT, hO⟩ : ∃ OUT, mkB s.data.toList.reverse = OUT := ⟨_, rfl⟩
            have HO := Lib.hid hO
            rw [hO] at hback
            clear HI hO HMK
            go_wp2
            go_ret2
            exact ⟨by rw [HO.out]; rfl, HBE.out⟩
      · have hv : funcV n s.data.toList = (mkB (trimL s.data.toList), 0) := by rw [e, func_trm]
        have f1 : (n.toList == [100, 111, 117, 98, 108, 101]) = false := by rw [e, Lib.toList_data]; decide
        have f2 : (n.toList == [108, 111, 119, 101, 114]) = false := by rw [e, Lib.toList_data]; decide
        have f3 : (n.toList == [114, 101, 118, 101, 114, 115, 101]) = false := by rw [e, Lib.toList_data]; decide
        have f4 : (n.toList == [117, 112, 112, 101, 114]) = false := by rw [e, Lib.toList_data]; decide
        rw [hv]
        have HSB := Lib.hid (fun (c : UInt8) (W : World) => sblank_any c W)
        obtain ⟨T, hT⟩ : ∃ T, mkB (trimL s.data.toList) = T := ⟨_, rfl⟩
        obtain ⟨R, hR⟩ : ∃ R, s.data.toList.dropWhile blankC = R := ⟨_, rfl⟩
        have HT : Hid (mkB (R.reverse.dropWhile blankC).reverse = T) := Lib.hid (by rw [← hT, ← hR]; rfl)
        have HRR := Lib.hid hR
        rw [hT]
        clear e hv hk hs hmx hl HDB HFL hbig hT hR
        go_enter Tryz.func15, Tryz.ntmps15
        go_wp2_with (go_at_call 31; refine (HKN.out _).mono ?_; rintro e w1 ⟨rfl, hb⟩; obtain ⟨cap, W1, hcv, hrow, hb2, hlt2, hcap⟩ := HCV.out w1; have HB2 := Lib.hid (hb.trans (hb2.mono hb.size)); have HR := Lib.hid hrow; have HZ := Lib.hid hlt2; have HWB := Lib.hid hb.size; clear hrow hb2 hb hlt2)
        clear hcv HCV HKN
        generalize w1.heap.size = g at HR HZ HWB ⊢
        have HL0 : Hid (BLies W1 g (.slice (some ⟨g, 0, none⟩) s.size cap) s.data.toList) := Lib.hid ⟨0, cap, by rw [HLN.out], by rw [HLN.out]; exact hcap, fun j hj => by rw [Nat.zero_add]; exact (HR.out j hj).1⟩
        clear HR hcap
        go_loop [7] (fun v => ∃ (v' : Value) (m : List UInt8), v' = v ∧ slotLen v = m.length ∧ m.length ≤ 200 ∧ Hid (BLies W1 g v' m ∧ m.dropWhile blankC = R)) (fun v => slotLen v)
        case atStart => exact ⟨_, s.data.toList, rfl, by simp [slotLen], by rw [HLN.out]; exact hs200, Lib.hid ⟨HL0.out, HRR.out⟩⟩
        case round =>
          clear HL0 HRR
          obtain ⟨v, m, rfl, hsl, hml, HI⟩ := hrel
          cases m with
          | nil =>
            have hR0 : R = [] := HI.out.2.symm
            have HRL : Hid (BLies W1 g v R) := Lib.hid (by rw [hR0]; exact HI.out.1)
            have HLE : Hid (0 = R.length) := Lib.hid (by rw [hR0]; rfl)
            obtain ⟨off, cp, hv, hc1, hc2⟩ := HI.out.1
            clear HI hR0 hc1 hc2 hsl hml
            subst hv
            go_wp2
            go_loop [7] (fun v => ∃ (v' : Value) (m : List UInt8), v' = v ∧ slotLen v = m.length ∧ m.length ≤ 200 ∧ Hid (BLies W1 g v' m ∧ mkB (m.reverse.dropWhile blankC).reverse = T)) (fun v => slotLen v)
            case atStart => exact ⟨_, R, rfl, by rw [← HLE.out]; simp [slotLen], by rw [← HLE.out]; omega, Lib.hid ⟨HRL.out, HT.out⟩⟩
            case round =>
              clear HRL HT HLE
              obtain ⟨v, m, rfl, hsl, hml, HI⟩ := hrel
              have HB := Lib.hid HI.out.1
              obtain ⟨k, hk⟩ : ∃ k, m.length = k := ⟨_, rfl⟩
              rw [hk] at hsl hml
              cases k with
              | zero =>
                have hm0 : m = [] := List.eq_nil_of_length_eq_zero hk
                have HTT : Hid (mkB m = T) := Lib.hid (by have := HI.out.2; rw [hm0] at this ⊢; exact this)
                obtain ⟨off, cp, hv, hc1, hc2⟩ := HI.out.1
                have hback := HI.out.1.back
                rw [HTT.out] at hback
                rw [hk] at hv
                clear HI hc1 hc2 hm0 hk hsl
                subst hv
                go_wp2
                go_ret2
                exact ⟨rfl, HB2.out⟩
              | succ k =>
                have HLR := Lib.hid (last_rev hk)
                obtain ⟨off, cp, hv, hc1, hc2⟩ := HI.out.1
                obtain ⟨v2, hsl2, hb2⟩ := HI.out.1.take (k := k) (by omega)
                have HB2' := Lib.hid hb2
                have hcell := hc2 k (by omega)
                have HMT : Hid ((m.take k).length = k) := Lib.hid (by rw [List.length_take]; omega)
                have hback := HI.out.1.back
                have HE := Lib.hid HI.out.2
                generalize hc : m[k] = c at hcell HLR
                have HBL : Hid (∀ W, Calls Tryz.prog 34 #[.int .u8 (c.toNat : Int)] W fun e w' => e = .returned (.bool (blankC c)) ∧ W = w') := Lib.hid fun W => HSB.out c W
                rw [hk] at hv hc1
                clear HI hc2 hc
                subst hv
                have q1 : (0 : Int) < ((k + 1 : Nat) : Int) := by omega
                have q3 : (0 : Int) ≤ k := by omega
                have q4 : (k : Int) < (k : Int) + 1 := by omega
                have w5 : IntKind.i64.wrap ((k : Int) + 1 - 1) = (k : Int) := by rw [IntWalk.i64_in _ (by omega)]; omega
                cases hbk : blankC c with
                | true =>
                  rw [hbk] at HBL
                  have HN2 : Hid (mkB ((m.take k).reverse.dropWhile blankC).reverse = T) := Lib.hid (by have := HE.out; rwa [HLR.out, dw_cons_yes hbk] at this)
                  have HSL : Hid (slotLen v2 = (m.take k).length) := Lib.hid (by obtain ⟨o2, c2, e2, _⟩ := HB2'.out; rw [e2]; rfl)
                  clear hbk hback
                  go_wp2_with (go_at_call 34; refine (HBL.out _).mono ?_; rintro e w' ⟨rfl, rfl⟩)
                  go_round
                  case rel => exact ⟨_, m.take k, rfl, HSL.out, by rw [HMT.out]; omega, Lib.hid ⟨HB2'.out, HN2.out⟩⟩
                  case measure => show slotLen v2 < k + 1; rw [HSL.out, HMT.out]; omega
                | false =>
                  rw [hbk] at HBL
                  have HTT : Hid (mkB m = T) := Lib.hid (by have := HE.out; rwa [HLR.out, dw_cons_no hbk, ← HLR.out, List.reverse_reverse] at this)
                  rw [HTT.out] at hback
                  clear hbk
                  go_wp2_with (go_at_call 34; refine (HBL.out _).mono ?_; rintro e w' ⟨rfl, rfl⟩)
                  go_ret2
                  exact ⟨rfl, HB2.out⟩

          | cons c r =>
            obtain ⟨off, cp, hv, hc1, hc2⟩ := HI.out.1
            obtain ⟨v2, hsl2, hb2⟩ := HI.out.1.drop (k := 1) (by simp)
            rw [List.drop_one, List.tail_cons] at hb2
            rw [show ((1 : Nat) : Int) = 1 from rfl] at hsl2
            have HB2' := Lib.hid hb2
            have hcell := hc2 0 (by simp)
            rw [List.getElem_cons_zero, Nat.add_zero] at hcell
            have HIN := Lib.hid HI.out
            have HBL : Hid (∀ W, Calls Tryz.prog 34 #[.int .u8 (c.toNat : Int)] W fun e w' => e = .returned (.bool (blankC c)) ∧ W = w') := Lib.hid fun W => HSB.out c W
            rw [List.length_cons] at hv hc1 hml hsl
            obtain ⟨n1, hn1⟩ : ∃ n1, r.length = n1 := ⟨_, rfl⟩
            have HN1 := Lib.hid hn1
            rw [hn1] at hv hc1 hml hsl
            clear HI hc2 hb2 hn1
            subst hv
            have q1 : (0 : Int) < ((n1 + 1 : Nat) : Int) := by omega
            have q2 : (0 : Int) < (n1 : Int) + 1 := by omega
            have q3 : (1 : Int) ≤ (n1 : Int) + 1 := by omega
            cases hbk : blankC c with
            | true =>
              rw [hbk] at HBL
              have HN2 : Hid (r.dropWhile blankC = R) := Lib.hid (by have := HIN.out.2; rwa [dw_cons_yes hbk] at this)
              have HSL : Hid (slotLen v2 = r.length) := Lib.hid (by obtain ⟨o2, c2, e2, _⟩ := HB2'.out; rw [e2]; rfl)
              clear hbk HIN
              go_wp2_with (go_at_call 34; refine (HBL.out _).mono ?_; rintro e w' ⟨rfl, rfl⟩)
              go_round
              case rel => exact ⟨_, r, rfl, HSL.out, by rw [HN1.out]; omega, Lib.hid ⟨HB2'.out, HN2.out⟩⟩
              case measure => show slotLen v2 < n1 + 1; rw [HSL.out, HN1.out]; omega
            | false =>
              rw [hbk] at HBL
              have hRc : c :: r = R := by have := HIN.out.2; rwa [dw_cons_no hbk] at this
              have HRL : Hid (BLies W1 g (.slice (some ⟨g, off, none⟩) (n1 + 1) cp) R) := Lib.hid (by rw [← hRc]; exact HIN.out.1)
              have HLE : Hid (n1 + 1 = R.length) := Lib.hid (by rw [← hRc, List.length_cons, HN1.out])
              clear hbk HIN hRc
              go_wp2_with (go_at_call 34; refine (HBL.out _).mono ?_; rintro e w' ⟨rfl, rfl⟩)
              go_loop [7] (fun v => ∃ (v' : Value) (m : List UInt8), v' = v ∧ slotLen v = m.length ∧ m.length ≤ 200 ∧ Hid (BLies W1 g v' m ∧ mkB (m.reverse.dropWhile blankC).reverse = T)) (fun v => slotLen v)
              case atStart => exact ⟨_, R, rfl, by rw [← HLE.out]; simp [slotLen], by rw [← HLE.out]; omega, Lib.hid ⟨HRL.out, HT.out⟩⟩
              case round =>
                clear HRL HT HLE
                obtain ⟨v, m, rfl, hsl, hml, HI⟩ := hrel
                have HB := Lib.hid HI.out.1
                obtain ⟨k, hk⟩ : ∃ k, m.length = k := ⟨_, rfl⟩
                rw [hk] at hsl hml
                cases k with
                | zero =>
                  have hm0 : m = [] := List.eq_nil_of_length_eq_zero hk
                  have HTT : Hid (mkB m = T) := Lib.hid (by have := HI.out.2; rw [hm0] at this ⊢; exact this)
                  obtain ⟨off, cp, hv, hc1, hc2⟩ := HI.out.1
                  have hback := HI.out.1.back
                  rw [HTT.out] at hback
                  rw [hk] at hv
                  clear HI hc1 hc2 hm0 hk hsl
                  subst hv
                  go_wp2
                  go_ret2
                  exact ⟨rfl, HB2.out⟩
                | succ k =>
                  have HLR := Lib.hid (last_rev hk)
                  obtain ⟨off, cp, hv, hc1, hc2⟩ := HI.out.1
                  obtain ⟨v2, hsl2, hb2⟩ := HI.out.1.take (k := k) (by omega)
                  have HB2' := Lib.hid hb2
                  have hcell := hc2 k (by omega)
                  have HMT : Hid ((m.take k).length = k) := Lib.hid (by rw [List.length_take]; omega)
                  have hback := HI.out.1.back
                  have HE := Lib.hid HI.out.2
                  generalize hc : m[k] = c at hcell HLR
                  have HBL : Hid (∀ W, Calls Tryz.prog 34 #[.int .u8 (c.toNat : Int)] W fun e w' => e = .returned (.bool (blankC c)) ∧ W = w') := Lib.hid fun W => HSB.out c W
                  rw [hk] at hv hc1
                  clear HI hc2 hc
                  subst hv
                  have q1 : (0 : Int) < ((k + 1 : Nat) : Int) := by omega
                  have q3 : (0 : Int) ≤ k := by omega
                  have q4 : (k : Int) < (k : Int) + 1 := by omega
                  have w5 : IntKind.i64.wrap ((k : Int) + 1 - 1) = (k : Int) := by rw [IntWalk.i64_in _ (by omega)]; omega
                  cases hbk : blankC c with
                  | true =>
                    rw [hbk] at HBL
                    have HN2 : Hid (mkB ((m.take k).reverse.dropWhile blankC).reverse = T) := Lib.hid (by have := HE.out; rwa [HLR.out, dw_cons_yes hbk] at this)
                    have HSL : Hid (slotLen v2 = (m.take k).length) := Lib.hid (by obtain ⟨o2, c2, e2, _⟩ := HB2'.out; rw [e2]; rfl)
                    clear hbk hback
                    go_wp2_with (go_at_call 34; refine (HBL.out _).mono ?_; rintro e w' ⟨rfl, rfl⟩)
                    go_round
                    case rel => exact ⟨_, m.take k, rfl, HSL.out, by rw [HMT.out]; omega, Lib.hid ⟨HB2'.out, HN2.out⟩⟩
                    case measure => show slotLen v2 < k + 1; rw [HSL.out, HMT.out]; omega
                  | false =>
                    rw [hbk] at HBL
                    have HTT : Hid (mkB m = T) := Lib.hid (by have := HE.out; rwa [HLR.out, dw_cons_no hbk, ← HLR.out, List.reverse_reverse] at this)
                    rw [HTT.out] at hback
                    clear hbk
                    go_wp2_with (go_at_call 34; refine (HBL.out _).mono ?_; rintro e w' ⟨rfl, rfl⟩)
                    go_ret2
                    exact ⟨rfl, HB2.out⟩

      · have hv : funcV n s.data.toList = (mkB (raiseL s.data.toList), 0) := by rw [e, func_upp]
        have f1 : (n.toList == [100, 111, 117, 98, 108, 101]) = false := by rw [e, Lib.toList_data]; decide
        have f2 : (n.toList == [108, 111, 119, 101, 114]) = false := by rw [e, Lib.toList_data]; decide
        have f3 : (n.toList == [114, 101, 118, 101, 114, 115, 101]) = false := by rw [e, Lib.toList_data]; decide
        have f4 : (n.toList == [117, 112, 112, 101, 114]) = true := by rw [e, Lib.toList_data]; decide
        rw [hv]
        have HAL : Hid ((raiseL s.data.toList).length = s.data.toList.length) := Lib.hid (raise_len _)
        clear e hv hk hs hmx hl HDB HFL hbig
        go_enter Tryz.func15, Tryz.ntmps15
        go_wp2_with (go_at_call 31; refine (HKN.out _).mono ?_; rintro e w1 ⟨rfl, hb⟩; obtain ⟨cap, W1, hcv, hrow, hb2, hlt2, hcap⟩ := HCV.out w1; have HB2 := Lib.hid (hb.trans (hb2.mono hb.size)); have HR := Lib.hid hrow; have HZ := Lib.hid hlt2; have HWB := Lib.hid hb.size; clear hrow hb2 hb hlt2)
        clear hcv HCV HKN
        generalize w1.heap.size = g at HR HZ HWB ⊢
        go_loopw [9] (fun i wr => ∃ k : Nat, k ≤ s.size ∧ i = .int .i64 k ∧ Hid (Row8 wr g (mixL (raiseL s.data.toList) s.data.toList k) ∧ Below w.heap.size w wr)) (fun i _ => s.size - (intOf i).toNat)
        case atStart => exact ⟨0, by omega, rfl, Lib.hid ⟨by rw [mix_zero]; exact HR.out, HB2.out⟩⟩
        case round =>
          clear HR HB2
          obtain ⟨k, hk, rfl, HI⟩ := hrel
          by_cases hlt : k < s.size
          · have hkl : k < s.data.toList.length := by rw [HLN.out]; exact hlt
            obtain ⟨hc1, hc2⟩ := mix_cell HI.out.1 HAL.out hkl
            have HRA : Hid ((raiseL s.data.toList)[k]'(by rw [HAL.out]; exact hkl) = raiseB s.data.toList[k]) := Lib.hid (raise_at _ _ hkl)
            have q1 : (0 : Int) ≤ k := by omega
            have q2 : (k : Int) < s.size := by omega
            by_cases hc : 97 ≤ (s.data.toList[k]).toNat ∧ (s.data.toList[k]).toNat ≤ 122
            · have HP : Hid (∀ x : Int, x = ((s.data.toList[k]).toNat : Int) - 32 → Row8 (wr.setCell ⟨g, k, none⟩ (.int .u8 x)) g (mixL (raiseL s.data.toList) s.data.toList (k + 1)) ∧ Below w.heap.size w (wr.setCell ⟨g, k, none⟩ (.int .u8 x))) := Lib.hid fun x hx => ⟨mix_put HI.out.1 HAL.out hkl _ (by rw [HRA.out, raise_in hc]; exact hx), HI.out.2.setCell (p := ⟨g, k, none⟩) HWB.out _⟩
              clear HI HRA
              generalize (s.data.toList[k]).toNat = z at hc1 hc HP
              obtain ⟨z1, z2⟩ := hc
              have g1 : (97 : Int) ≤ z := by omega
              have g2 : (z : Int) ≤ 122 := by omega
              have w5 : IntKind.u8.wrap ((z : Int) - 32) = (z : Int) - 32 := IntWalk.u8_in _ (by omega)
              go_wp2
              go_roundw
              case rel => exact ⟨k + 1, by omega, by go_num, Lib.hid (HP.out _ rfl)⟩
              case measure => simp [intOf]; omega
            · have HP : Hid (Row8 wr g (mixL (raiseL s.data.toList) s.data.toList (k + 1)) ∧ Below w.heap.size w wr) := Lib.hid ⟨by have := HI.out.1; rwa [mix_same HAL.out hkl (by rw [HRA.out, raise_out hc])] at this, HI.out.2⟩
              clear HI HRA
              generalize (s.data.toList[k]).toNat = z at hc1 hc
              have hor : ¬ (97 : Int) ≤ z ∨ ((97 : Int) ≤ z ∧ ¬ (z : Int) ≤ 122) := by omega
              clear hc
              rcases hor with g1 | ⟨g1, g2⟩
              all_goals
                go_wp2
                go_roundw
                case rel => exact ⟨k + 1, by omega, by go_num, HP⟩
                case measure => simp [intOf]; omega
          · have q2 : ¬ (k : Int) < s.size := by omega
            have hback := ofBytes (P := Tryz.prog) 9 59 5 wr g cap s.size (raiseL s.data.toList) (by rw [HAL.out, HLN.out]) Tryz.underlying9 Tryz.underlying59 Tryz.underlying5 (by have := HI.out.1; rwa [mix_all HAL.out (by rw [HLN.out]; omega)] at this)
            have HBE := Lib.hid HI.out.2
            have HMK : Hid ((⟨(raiseL s.data.toList).toArray⟩ : ByteArray) = mkB (raiseL s.data.toList)) := Lib.hid rfl
            rw [HMK.out] at hback
            obtain ⟨OUT, hO⟩ : ∃ OUT, mkB (raiseL s.data.toList) = OUT := ⟨_, rfl⟩
            have HO := Lib.hid hO
            rw [hO] at hback
            clear HI hO HMK
            go_wp2
            go_ret2
            exact ⟨by rw [HO.out]; rfl, HBE.out⟩
end Go.Proofs.YticcdighfojjjaaGreatDoor
