/-
  EnvMade.
-/
import Derived.Test.YtbgoooljkdjjhaaGreatDoorQEnvAwake
namespace Go.Proofs.YtbgoooljkdjjhaaGreatDoor
open Go.ChangeShapes Go.WideShapes Go.ChangeAt Go.RowKit

def NamesB (xs : List KeyV) : Prop := ∀ k ∈ xs, nameB k.name.data.toList = true
theorem addK_names {xs : List KeyV} (k : KeyV) (h : NamesB xs) : NamesB (addK xs k) := by
  unfold addK
  split
  · rename_i h0
    have hf : nameB k.name.data.toList = true := by
      cases hh : formK k with
      | false =>
        unfold addE at h0
        rw [if_pos hh] at h0
        cases h0
      | true =>
        unfold formK at hh
        rw [Bool.and_eq_true] at hh
        exact hh.1
    intro q hq
    unfold insK at hq
    rcases List.mem_append.1 hq with hq | hq
    · exact h q (List.mem_of_mem_take hq)
    · rcases List.mem_cons.1 hq with rfl | hq
      · exact hf
      · exact h q (List.mem_of_mem_drop hq)
  · exact h
/-- What made answers. -/
def MadeRes (w : World) (e : Ending) (w' : World) : Prop :=
  ∃ S xs y d, e = .returned (.tuple #[.pointer (some ⟨S, 0, none⟩), .slice y (List.length xs) d]) ∧ SetIn w w' S xs ∧ NamesB xs ∧ TxAt w' y (xs.map (·.name))
theorem setIn_of {w0 w w' : World} {S : Nat} {xs : List KeyV} (hb : Below w0.heap.size w0 w) (h : SetIn w w' S xs) : SetIn w0 w' S xs :=
  ⟨h.set, hb.trans (h.below.mono hb.size), Nat.le_trans hb.size h.new, h.sorted, h.len⟩
/-- Texts laid by one call, and a world of an elder one. -/
structure NmOwn (w w0 wr : World) (S : Nat) (xs : List KeyV) (y : Option Addr) (v : Value) (ts : List ByteArray) : Prop where
  set : SetIn w w0 S xs
  keys : Keys wr y xs
  own : OwnX w0 wr v ts
set_option maxHeartbeats 3200000 in
set_option maxRecDepth 100000 in
theorem made_any (x : Option Addr) (c : Nat) (ls : List KeyV) (std : Bool) (w : World) (h : KeysAt w x ls) (hn : ls.length ≤ 4294967280) (hz : ∀ l ∈ ls, l.name.size ≤ 2147483647 ∧ l.dflt.size ≤ 2147483647 ∧ l.letter.size ≤ 2147483647) (hT : Tab w) (hU : Units w) (hM : MaxI w) :
    Calls Tryz.prog 21 #[.slice x ls.length c, .bool std] w (MadeRes w) := by
  have HL := Lib.hid h
  have HZ := Lib.hid hz
  have HT : Hid (∀ W, Below w.heap.size w W → Tab W ∧ Units W ∧ MaxI W) := Lib.hid fun W hb => ⟨hT.below hb, hU.below hb, hM.below hb⟩
  obtain ⟨n, hn'⟩ : ∃ n, ls.length = n := ⟨_, rfl⟩
  have HN := Lib.hid hn'
  rw [hn'] at hn ⊢
  have HNW := Lib.hid (new_any w)
  have HST : Hid (∀ W, Below w.heap.size w W → Calls Tryz.prog 29 #[] W fun e w' => ∃ S, e = .returned (.pointer (some ⟨S, 0, none⟩)) ∧ SetIn W w' S stdL) := Lib.hid fun W hb => standard_any W (hT.below hb) (hU.below hb) (hM.below hb)
  clear h hz hT hU hM hn'
  cases std with
  | false =>
    go_enter Tryz.func21, Tryz.ntmps21
    go_wp2_with fail
    refine HNW.out.mono ?_
    rintro e w1 ⟨rfl, hs1, hb1⟩
    have HSE : Hid (∃ xs, SetIn w w1 w.heap.size xs ∧ NamesB xs) := Lib.hid ⟨[], ⟨⟨_, _, hs1⟩, hb1, Nat.le_refl _, (fun a b hb _ => absurd hb (by simp)), by simp⟩, fun k hk => by cases hk⟩
    obtain ⟨S, hS⟩ : ∃ S, w.heap.size = S := ⟨_, rfl⟩
    have HS := Lib.hid hS
    rw [show (some (⟨w.heap.size, 0, none⟩ : Addr)) = some ⟨S, 0, none⟩ by rw [hS]]
    rw [hS] at HSE
    clear hs1 hb1 HNW HST hS
    go_wp2
    go_loopw [7] (fun i wr => ∃ t : Nat, i = .int .i64 t ∧ t ≤ n ∧ Hid (∃ xs, SetIn w wr S xs ∧ NamesB xs)) (fun i _ => n - (intOf i).toNat)
    case atStart => exact ⟨0, rfl, by omega, HSE⟩
    case round =>
      clear HSE
      obtain ⟨t, rfl, ht, HSE⟩ := hrel
      obtain ⟨xs, hse, hnb⟩ := HSE.out
      have HSI := Lib.hid hse
      have HNB := Lib.hid hnb
      clear HSE hse hnb
      by_cases hlt : t < n
      · have q1 : (0 : Int) ≤ t := by omega
        have q2 : (t : Int) < n := by omega
        have htx : t < ls.length := by rw [HN.out]; exact hlt
        obtain ⟨bx, off, hxe, hxl, d0, d1, d2, d3, d4, d5⟩ := (HL.out.below HSI.out.below) t htx
        have hzz := HZ.out _ (List.getElem_mem htx)
        generalize ls[t] = k at hzz d0 d1 d2 d3 d4 d5
        obtain ⟨z1, z2, z3⟩ := hzz
        obtain ⟨hT, hU, hM⟩ := HT.out _ HSI.out.below
        obtain ⟨sx, sc, hsa⟩ := HSI.out.set
        have HAD := Lib.hid (add_any xs k S sx sc wr hsa HSI.out.sorted HSI.out.len hT hU hM (by omega) (by omega) (by omega))
        have HNX : Hid (∀ W, Added wr S (addK xs k) W → ∃ xs, SetIn w W S xs ∧ NamesB xs) := Lib.hid fun W ha => ⟨_, HSI.out.added ha, addK_names k HNB.out⟩
        obtain ⟨nm, kd, dl, la, lb, le⟩ := k
        unfold kAgg at HAD
        simp only at HAD d0 d1 d2 d3 d4 d5
        generalize addE xs _ = E at HAD
        subst hxe
        clear hT hU hM hsa z1 z2 z3 htx HSI HNB
        go_wp2_with fail
        refine HAD.out.mono ?_
        rintro e w3 ⟨rfl, hadd⟩
        have HS3 := Lib.hid (HNX.out _ hadd)
        clear d0 d1 d2 d3 d4 d5 hadd HAD HNX
        go_wp2
        go_roundw
        case rel => exact ⟨t + 1, by go_num, by omega, HS3⟩
        case measure => simp [intOf]; omega
      · have q2 : ¬ (t : Int) < n := by omega
        obtain ⟨m, hm⟩ : ∃ m, xs.length = m := ⟨_, rfl⟩
        have HMM := Lib.hid hm
        have hml : m ≤ 64 := by rw [← hm]; exact HSI.out.len
        have HAL : Hid (Calls Tryz.prog 28 #[.pointer (some ⟨S, 0, none⟩)] wr fun e w' => ∃ y d, e = .returned (.slice y m d) ∧ Keys w' y xs ∧ Below wr.heap.size wr w') := Lib.hid (by
          obtain ⟨sx, sc, hsa⟩ := HSI.out.set
          have := all_there xs S sx sc wr hsa (by omega)
          rw [hm] at this
          exact this)
        clear hm
        go_wp2_with fail
        refine HAL.out.mono ?_
        rintro e w4 ⟨y, d, rfl, hk4, hb4⟩
        have HS4 := Lib.hid (HSI.out.below' hb4)
        have HK4 := Lib.hid hk4
        clear hk4 hb4 HAL HSI
        go_wp2
        go_loopw [9, 10] (fun v i wr => ∃ (t : Nat) (x9 : Option Addr) (c9 : Nat), v = .slice x9 t c9 ∧ i = .int .i64 t ∧ t ≤ m ∧ Hid (OwnX w4 wr (.slice x9 t c9) ((xs.map (·.name)).take t))) (fun _ i _ => m - (intOf i).toNat)
        case atStart => exact ⟨0, none, 0, rfl, rfl, by omega, Lib.hid (OwnX.nil_ _)⟩
        case round =>
          obtain ⟨t, x9, c9, rfl, rfl, ht, HO⟩ := hrel
          by_cases hlt : t < m
          · have q1 : (0 : Int) ≤ t := by omega
            have q3 : (t : Int) < m := by omega
            have htx : t < xs.length := by rw [HMM.out]; exact hlt
            have HTK : Hid ((xs.map (·.name)).take (t + 1) = (xs.map (·.name)).take t ++ [xs[t].name]) := Lib.hid (by rw [List.take_succ_eq_append_getElem (by simpa using htx)]; simp)
            have hlen : ((xs.map (·.name)).take t).length = t := by rw [List.length_take, List.length_map, HMM.out]; omega
            obtain ⟨b, e, hl, c0, _⟩ := (HK4.out.below HO.out.below) t htx
            subst e
            generalize xs[t].name = nm at c0 HTK
            generalize (xs.map (·.name)).take t = ts at HO HTK hlen
            go_wp2_with (at_builtin; refine appendX rfl _ _ rfl HO.out (by omega) rfl rfl rfl ?_; intro y5 c5 w5 ho5; have HO5 : Hid (OwnX w4 w5 (.slice (some ⟨y5, 0, none⟩) (t + 1) c5) (ts ++ [nm])) := Lib.hid (hlen ▸ ho5); clear ho5)
            go_roundw
            case rel => exact ⟨t + 1, _, _, rfl, by go_num, by omega, by rw [HTK.out]; exact HO5⟩
            case measure => simp [intOf]; omega
          · have hte : t = m := by omega
            subst hte
            have q3 : ¬ (t : Int) < t := by omega
            have HO6 := HO.out
            rw [List.take_of_length_le (by rw [List.length_map, HMM.out]; exact Nat.le_refl _)] at HO6
            have HF : Hid (MadeRes w (.returned (.tuple #[.pointer (some ⟨S, 0, none⟩), .slice x9 t c9])) wr) := Lib.hid (by
              obtain ⟨x', c', e', htx⟩ := HO6.texts
              injection e' with e1 e2 e3
              refine ⟨S, xs, x9, c9, by rw [HMM.out], HS4.out.below' HO6.below, HNB.out, by rw [e1]; exact htx⟩)
            clear HO6
            go_wp2
            go_ret2
            exact HF.out
  | true =>
    go_enter Tryz.func21, Tryz.ntmps21
    go_wp2_with fail
    refine HNW.out.mono ?_
    rintro e w0 ⟨rfl, _, hb1⟩
    go_wp2_with fail
    refine (HST.out _ hb1).mono ?_
    rintro e w1 ⟨S, rfl, hs1⟩
    have HSE : Hid (∃ xs, SetIn w w1 S xs ∧ NamesB xs) := Lib.hid ⟨stdL, setIn_of hb1 hs1, std_names⟩
    clear hs1 hb1 HNW HST
    go_wp2
    go_loopw [7] (fun i wr => ∃ t : Nat, i = .int .i64 t ∧ t ≤ n ∧ Hid (∃ xs, SetIn w wr S xs ∧ NamesB xs)) (fun i _ => n - (intOf i).toNat)
    case atStart => exact ⟨0, rfl, by omega, HSE⟩
    case round =>
      clear HSE
      obtain ⟨t, rfl, ht, HSE⟩ := hrel
      obtain ⟨xs, hse, hnb⟩ := HSE.out
      have HSI := Lib.hid hse
      have HNB := Lib.hid hnb
      clear HSE hse hnb
      by_cases hlt : t < n
      · have q1 : (0 : Int) ≤ t := by omega
        have q2 : (t : Int) < n := by omega
        have htx : t < ls.length := by rw [HN.out]; exact hlt
        obtain ⟨bx, off, hxe, hxl, d0, d1, d2, d3, d4, d5⟩ := (HL.out.below HSI.out.below) t htx
        have hzz := HZ.out _ (List.getElem_mem htx)
        generalize ls[t] = k at hzz d0 d1 d2 d3 d4 d5
        obtain ⟨z1, z2, z3⟩ := hzz
        obtain ⟨hT, hU, hM⟩ := HT.out _ HSI.out.below
        obtain ⟨sx, sc, hsa⟩ := HSI.out.set
        have HAD := Lib.hid (add_any xs k S sx sc wr hsa HSI.out.sorted HSI.out.len hT hU hM (by omega) (by omega) (by omega))
        have HNX : Hid (∀ W, Added wr S (addK xs k) W → ∃ xs, SetIn w W S xs ∧ NamesB xs) := Lib.hid fun W ha => ⟨_, HSI.out.added ha, addK_names k HNB.out⟩
        obtain ⟨nm, kd, dl, la, lb, le⟩ := k
        unfold kAgg at HAD
        simp only at HAD d0 d1 d2 d3 d4 d5
        generalize addE xs _ = E at HAD
        subst hxe
        clear hT hU hM hsa z1 z2 z3 htx HSI HNB
        go_wp2_with fail
        refine HAD.out.mono ?_
        rintro e w3 ⟨rfl, hadd⟩
        have HS3 := Lib.hid (HNX.out _ hadd)
        clear d0 d1 d2 d3 d4 d5 hadd HAD HNX
        go_wp2
        go_roundw
        case rel => exact ⟨t + 1, by go_num, by omega, HS3⟩
        case measure => simp [intOf]; omega
      · have q2 : ¬ (t : Int) < n := by omega
        obtain ⟨m, hm⟩ : ∃ m, xs.length = m := ⟨_, rfl⟩
        have HMM := Lib.hid hm
        have hml : m ≤ 64 := by rw [← hm]; exact HSI.out.len
        have HAL : Hid (Calls Tryz.prog 28 #[.pointer (some ⟨S, 0, none⟩)] wr fun e w' => ∃ y d, e = .returned (.slice y m d) ∧ Keys w' y xs ∧ Below wr.heap.size wr w') := Lib.hid (by
          obtain ⟨sx, sc, hsa⟩ := HSI.out.set
          have := all_there xs S sx sc wr hsa (by omega)
          rw [hm] at this
          exact this)
        clear hm
        go_wp2_with fail
        refine HAL.out.mono ?_
        rintro e w4 ⟨y, d, rfl, hk4, hb4⟩
        have HS4 := Lib.hid (HSI.out.below' hb4)
        have HK4 := Lib.hid hk4
        clear hk4 hb4 HAL HSI
        go_wp2
        go_loopw [9, 10] (fun v i wr => ∃ (t : Nat) (x9 : Option Addr) (c9 : Nat), v = .slice x9 t c9 ∧ i = .int .i64 t ∧ t ≤ m ∧ Hid (OwnX w4 wr (.slice x9 t c9) ((xs.map (·.name)).take t))) (fun _ i _ => m - (intOf i).toNat)
        case atStart => exact ⟨0, none, 0, rfl, rfl, by omega, Lib.hid (OwnX.nil_ _)⟩
        case round =>
          obtain ⟨t, x9, c9, rfl, rfl, ht, HO⟩ := hrel
          by_cases hlt : t < m
          · have q1 : (0 : Int) ≤ t := by omega
            have q3 : (t : Int) < m := by omega
            have htx : t < xs.length := by rw [HMM.out]; exact hlt
            have HTK : Hid ((xs.map (·.name)).take (t + 1) = (xs.map (·.name)).take t ++ [xs[t].name]) := Lib.hid (by rw [List.take_succ_eq_append_getElem (by simpa using htx)]; simp)
            have hlen : ((xs.map (·.name)).take t).length = t := by rw [List.length_take, List.length_map, HMM.out]; omega
            obtain ⟨b, e, hl, c0, _⟩ := (HK4.out.below HO.out.below) t htx
            subst e
            generalize xs[t].name = nm at c0 HTK
            generalize (xs.map (·.name)).take t = ts at HO HTK hlen
            go_wp2_with (at_builtin; refine appendX rfl _ _ rfl HO.out (by omega) rfl rfl rfl ?_; intro y5 c5 w5 ho5; have HO5 : Hid (OwnX w4 w5 (.slice (some ⟨y5, 0, none⟩) (t + 1) c5) (ts ++ [nm])) := Lib.hid (hlen ▸ ho5); clear ho5)
            go_roundw
            case rel => exact ⟨t + 1, _, _, rfl, by go_num, by omega, by rw [HTK.out]; exact HO5⟩
            case measure => simp [intOf]; omega
          · have hte : t = m := by omega
            subst hte
            have q3 : ¬ (t : Int) < t := by omega
            have HO6 := HO.out
            rw [List.take_of_length_le (by rw [List.length_map, HMM.out]; exact Nat.le_refl _)] at HO6
            have HF : Hid (MadeRes w (.returned (.tuple #[.pointer (some ⟨S, 0, none⟩), .slice x9 t c9])) wr) := Lib.hid (by
              obtain ⟨x', c', e', htx⟩ := HO6.texts
              injection e' with e1 e2 e3
              refine ⟨S, xs, x9, c9, by rw [HMM.out], HS4.out.below' HO6.below, HNB.out, by rw [e1]; exact htx⟩)
            clear HO6
            go_wp2
            go_ret2
            exact HF.out
end Go.Proofs.YtbgoooljkdjjhaaGreatDoor
