/-
  The walk of the law CodecBack.
-/
import Derived.Test.YtcfnkphdmkepaaaDoorCodecItems
import Derived.Deep.RegionLaw
import Derived.Lib.Split
namespace Go.Proofs.YtcfnkphdmkepaaaDoor
open Go.ChangeShapes Go.WideShapes Go.ChangeAt Go.RowKit

theorem add1 (t : Nat) : addV (t : Int) 1 = sat (t + 1) := add_sat t 1
/-- What stands at the head of a round of writing. -/
def BackW (w0 wr : World) (N wb : Nat) (l : List UInt8) : Prop := Wob wr N wb 2147483647 (l, 0) ∧ Below w0.heap.size w0 wr

theorem gen_world {P : Program} {c : Code} {Q : Exit → Act → World → Prop} {a : Act} {w : World} (F : World → Prop) (hF : F w) (h : ∀ W, F W → Code.wp P c Q a W) : Code.wp P c Q a w := h w hF

/-- What is left of the first text, of the second, of the third, behind k items. -/
def rd0 (os : List ItemV) (k : Nat) : List UInt8 × Int := (enc (os.drop k), 0)
def rd1 (os : List ItemV) (more : ByteArray) (k : Nat) : List UInt8 × Int := (enc (os.drop k) ++ (120 :: more.data.toList), 0)
def rd2 (os : List ItemV) (k : Nat) : List UInt8 × Int := if k < os.length then ((enc (os.drop k)).dropLast, 0) else ([], 32)
theorem rd0_step {os : List ItemV} {k : Nat} (h : k < os.length) : getI (rd0 os k) os[k] = true ∧ nextI (rd0 os k) os[k] = rd0 os (k + 1) := by
  unfold rd0; rw [enc_drop h]; exact get_right _ _
theorem rd1_step {os : List ItemV} {more : ByteArray} {k : Nat} (h : k < os.length) : getI (rd1 os more k) os[k] = true ∧ nextI (rd1 os more k) os[k] = rd1 os more (k + 1) := by
  unfold rd1; rw [enc_drop h, List.append_assoc]; exact get_right _ _
theorem enc_pos {l : List ItemV} (h : l ≠ []) : 0 < (enc l).length := by
  cases l with
  | nil => exact absurd rfl h
  | cons o r => have := itemRow_pos o; simp only [enc, List.length_append]; omega
theorem rd2_step {os : List ItemV} {k : Nat} (h : k < os.length) : nextI (rd2 os k) os[k] = rd2 os (k + 1) := by
  rw [rd2, if_pos h, enc_drop h]
  by_cases h1 : k + 1 < os.length
  · rw [cut_more _ _ (enc_pos (by intro e; have := congrArg List.length e; simp at this; omega)), (get_right _ _).2, rd2, if_pos h1]
  · rw [List.drop_eq_nil_of_le (by omega), enc, List.append_nil, get_cut, rd2, if_neg h1]
theorem enc_drop_len (os : List ItemV) (k : Nat) : (enc (os.drop k)).length ≤ (enc os).length := by
  have := congrArg List.length (enc_append (os.take k) (os.drop k))
  rw [List.take_append_drop, List.length_append] at this; omega
theorem rd0_end (os : List ItemV) : rd0 os os.length = ([], 0) := by rw [rd0, List.drop_length]; rfl
theorem rd1_end (os : List ItemV) (more : ByteArray) : rd1 os more os.length = (120 :: more.data.toList, 0) := by rw [rd1, List.drop_length]; rfl
theorem rd2_end (os : List ItemV) : rd2 os os.length = ([], 32) := by rw [rd2, if_neg (by omega)]
theorem rd0_len (os : List ItemV) (k : Nat) : (rd0 os k).1.length ≤ (enc os).length := enc_drop_len os k
theorem rd1_len (os : List ItemV) (more : ByteArray) (k : Nat) : (rd1 os more k).1.length ≤ (enc os).length + more.size + 1 := by
  have := enc_drop_len os k
  simp only [rd1, List.length_append, List.length_cons]
  simp; omega
theorem rd2_len (os : List ItemV) (k : Nat) : (rd2 os k).1.length ≤ (enc os).length := by
  have := enc_drop_len os k
  unfold rd2; split
  · simp; omega
  · simp
theorem rd0_zero {os : List ItemV} {q : List UInt8} (h : enc os = q) : (ByteArray.mk q.toArray).data.toList = (rd0 os 0).1 := by rw [← h]; rfl
theorem rd1_zero {os : List ItemV} {more : ByteArray} {q : List UInt8} (h : enc os = q) : (ByteArray.mk q.toArray ++ ⟨#[120]⟩ ++ more).data.toList = (rd1 os more 0).1 := by
  rw [← h]; simp [rd1]

theorem push4 (h : Array Obj) (A B C D : Obj) : ((((h.push A).push B).push C).push D)[h.size + 1 + 1 + 1]? = some D ∧ ((((h.push A).push B).push C).push D)[h.size + 1]? = some B := by
  refine ⟨?_, ?_⟩
  · rw [Array.getElem?_push, if_pos (by simp)]
  · rw [Array.getElem?_push, if_neg (by simp <;> omega), Array.getElem?_push, if_neg (by simp), Array.getElem?_push, if_pos (by simp)]
theorem new4 (w : World) (A : Obj) (bc : Array Value) (tb : TypeId) (C : Obj) (dc : Array Value) (td : TypeId) :
    (∀ j v, dc[j]? = some v → ((((w.alloc A).alloc (.cells bc tb)).alloc C).alloc (.cells dc td)).drew.cell? ⟨w.heap.size + 1 + 1 + 1, j, none⟩ = some v) ∧
    (∀ j v, bc[j]? = some v → ((((w.alloc A).alloc (.cells bc tb)).alloc C).alloc (.cells dc td)).drew.cell? ⟨w.heap.size + 1, j, none⟩ = some v) := by
  obtain ⟨h1, h2⟩ := push4 w.heap A (.cells bc tb) C (.cells dc td)
  exact ⟨fun j v hv => by rw [cell_of_row (((((w.alloc A).alloc (.cells bc tb)).alloc C).alloc (.cells dc td)).drew) (w.heap.size + 1 + 1 + 1) j dc td (0, 0) h1]; exact hv, fun j v hv => by rw [cell_of_row (((((w.alloc A).alloc (.cells bc tb)).alloc C).alloc (.cells dc td)).drew) (w.heap.size + 1) j bc tb (0, 0) h2]; exact hv⟩
theorem first3 (x y z : Value) (r : Array Value) : (#[x, y, z] ++ r)[0]? = some x ∧ (#[x, y, z] ++ r)[1]? = some y ∧ (#[x, y, z] ++ r)[2]? = some z := by
  refine ⟨?_, ?_, ?_⟩ <;> rw [Array.getElem?_append, if_pos (by simp)] <;> rfl
theorem rd2_zero {os : List ItemV} {q : List UInt8} (hn : os ≠ []) (h : enc os = q) : ((ByteArray.mk q.toArray).extract 0 (q.length - 1)).data.toList = (rd2 os 0).1 := by
  rw [rd2, if_pos (List.length_pos_iff.2 hn), List.drop_zero, h, List.dropLast_eq_take, Lib.extract_from_zero]

set_option maxRecDepth 100000 in
set_option maxHeartbeats 12800000 in
theorem back_any (w : World) (x : Option Addr) (cap : Nat) (os : List ItemV) (more : ByteArray) (hS : Items w x os) (hs : more.size ≤ maxLen) (hh : Hand w) :
    Calls Tryd.prog 4 #[.slice x os.length cap, .string more] w fun e w' => e = .returned (.bool true) ∧ Below w.heap.size w w' := by
  unfold maxLen at hs
  have hpos := hh.pos
  have HH := Lib.hid hh
  have HS := Lib.hid hS
  have hlen := hS.1
  have hA1 := Lib.hid (add1 more.size)
  clear hS hh
  go_enter Tryd.func4, Tryd.ntmps4
  go_wp2_with fail
  refine (add_any _ _ _ (by omega) (by omega) (by omega)).mono ?_
  rintro e w' ⟨rfl, rfl⟩
  rw [hA1.out]
  clear hA1
  go_wp2
  go_loopw [5, 6] (fun n i wr => ∃ k : Nat, k ≤ os.length ∧ i = .int .i64 k ∧ ∃ t : Nat, n = .int .i64 (sat t) ∧ Hid (t = more.size + 1 + totalI (os.take k)) ∧ Hid (∃ m, wr = w.drewN m)) (fun _ i _ => os.length - (intOf i).toNat)
  case atStart => exact ⟨0, by omega, rfl, more.size + 1, rfl, Lib.hid (by simp [totalI]), Lib.hid ⟨0, rfl⟩⟩
  case round =>
    obtain ⟨k, hk, rfl, t, rfl, HT, HM⟩ := hrel
    by_cases hlt : k < os.length
    · by_cases hb : (t : Int) ≤ 2147483647
      · have hsm := sat_small hb
        obtain ⟨⟨_, _, hsz⟩, b, off, hx, _, c0, c1, c2, c3⟩ := HS.out.2 k hlt
        have HTS := Lib.hid (totalI_succ hlt)
        generalize os[k] = o at hsz c0 c1 c2 c3 HTS
        subst hx
        have c3' : wr.cell? ⟨b, off + k * 4 + 3, none⟩ = some (.string o.s) := by
          obtain ⟨m, rfl⟩ := HM.out
          exact c3
        clear c0 c1 c2 c3
        rw [hsm]
        have q1 : (0 : Int) ≤ k := by omega
        have q2 : (k : Int) < os.length := by omega
        have hA := add100 t
        have HA := Lib.hid hA
        obtain ⟨s1, s2⟩ := sat_bd (t + 100)
        rw [← hA] at s1 s2
        have s3 : addV (t : Int) 100 ≤ 9223372036854775807 := Int.le_trans s2 (by decide)
        have hC := add_sat o.s.size o.s.size
        obtain ⟨u1, _⟩ := sat_bd (o.s.size + o.s.size)
        rw [← hC] at u1
        have HC := Lib.hid hC
        have HB := Lib.hid (add_sats (t + 100) (o.s.size + o.s.size))
        clear hsm hA hC
        go_wp2
        go_quiet ((go_at_call 13; exact quietW (add_any _ _ _ (by first | assumption | omega) (by first | assumption | omega) (by first | assumption | omega))))
        go_wp2
        go_roundw
        case rel => exact ⟨k + 1, by omega, by go_num, t + 100 + (o.s.size + o.s.size), by rw [← HB.out, ← HA.out, ← HC.out], Lib.hid (by rw [HTS.out, HT.out]; omega), Lib.hid (drawn HM.out _)⟩
        case measure => simp [intOf]; omega
      · have hd : decide (sat t ≤ 2147483647) = false := decide_eq_false (by rw [sat_great hb]; decide)
        have hd2 : decide (2147483647 < sat t) = true := decide_eq_true (by rw [sat_great hb]; decide)
        have q2 : (k : Int) < os.length := by omega
        go_wp2
        go_ret
        obtain ⟨m, rfl⟩ := HM.out
        exact ⟨rfl, ⟨rfl, rfl, rfl, Nat.le_refl _, fun _ _ => rfl⟩⟩
    · have HTT : Hid (t = more.size + 1 + totalI os) := Lib.hid (by rw [HT.out, List.take_of_length_le (by omega)])
      have q2 : decide ((k : Int) < os.length) = false := decide_eq_false (by omega)
      by_cases hb : (t : Int) ≤ 2147483647
      · have hd2 : decide (2147483647 < sat t) = false := decide_eq_false (by rw [sat_small hb]; omega)
        have hBw : Below w.heap.size w wr := by obtain ⟨m, rfl⟩ := HM.out; exact ⟨rfl, rfl, rfl, Nat.le_refl _, fun _ _ => rfl⟩
        have hsum : more.size + 1 + totalI os ≤ 2147483647 := by have := HTT.out; omega
        have HHW := Lib.hid (HH.out.below hBw hpos)
        clear hb HT HTT HM
        go_wp2_with fail
        refine (awake_any _ HHW.out).mono ?_
        rintro e w2 ⟨rfl, hb2⟩
        replace hb2 := hBw.trans (hb2.mono hBw.size)
        clear hBw HHW
        go_wp2_with fail
        refine (newWriter_any _ _).mono ?_
        rintro e w3 ⟨rfl, hw3⟩
        rw [show max (2147483647 : Int) 0 = 2147483647 by decide] at hw3
        obtain ⟨N, hN⟩ : ∃ N, N = w3.heap.size := ⟨_, rfl⟩
        have hI : BackW w w3 N w2.heap.size [] := by
          have hb3 : Below w2.heap.size w2 w3 := by rw [hw3]; exact (Below.refl _ _).alloc (Nat.le_refl _) _
          exact ⟨⟨[w2.heap.size], by rw [hw3]; exact wtr_new w2 _, fun k hk => Or.inl (by simpa using hk), by omega⟩, hb2.trans (hb3.mono hb2.size)⟩
        have hwb := hb2.size
        have hNN : w.heap.size ≤ N := by have := hI.2.size; omega
        generalize w2.heap.size = wb at hI hwb
        have HI := Lib.hid hI
        clear hI hw3 hN hb2
        have hol : 100 * os.length ≤ 2147483647 := by have := totalI_len os; omega
        obtain ⟨wo, rfl⟩ : ∃ wo : World, wo = wr := ⟨_, rfl⟩
        go_wp2_with fail
        go_loopw [9] (fun i wr => ∃ k : Nat, k ≤ os.length ∧ i = .int .i64 k ∧ Hid (BackW w wr N wb (enc (os.take k)))) (fun i _ => os.length - (intOf i).toNat)
        case atStart => exact ⟨0, by omega, rfl, HI⟩
        case round =>
          clear HI
          obtain ⟨k, hk, rfl, HI⟩ := hrel
          by_cases hlt : k < os.length
          · obtain ⟨hok, b, off, hx, hbl, hat⟩ := HS.out.2 k hlt
            have hes := enc_succ hlt
            have hel : (enc (os.take (k + 1))).length ≤ 2147483646 := by
              have h3 := enc_len (os.take (k + 1))
              have h4 := totalI_take os (k + 1)
              omega
            generalize os[k] = o at hok hat hes
            subst hx
            obtain ⟨hW, hB⟩ := HI.out
            obtain ⟨c0, c1, c2, c3⟩ := hat.kept (hB.block b hbl)
            have HLT : Hid (layL 2147483647 (enc (os.take k), 0) (itemRow o, 0) = (enc (os.take (k + 1)), 0)) := Lib.hid (by rw [hes]; exact lay_took (by rw [← hes]; omega))
            have hel0 : (enc (os.take k)).length ≤ 2147483646 := by rw [hes, List.length_append] at hel; omega
            obtain ⟨⟨n1, n2⟩, _, hsz⟩ := hok
            have q1 : (0 : Int) ≤ k := by omega
            have q2 : (k : Int) < os.length := by omega
            clear hat HI hes c2 hel
            cases ht : o.text with
            | true =>
              have HTR := Lib.hid (textRow_item ht)
              rw [ht] at c0
              clear ht
              go_wp2_with fail
              refine (ltext_any _ _ hsz).mono ?_
              rintro e w' ⟨rfl, rfl⟩
              go_wp2_with fail
              refine (wob_text _ hW (by decide) (by decide) (by simp only; omega)).mono ?_
              rintro e w4 ⟨rfl, hW4, hb4⟩
              rw [HTR.out, HLT.out] at hW4
              have hB4 := hB.trans (hb4.below hwb hNN)
              clear hW hB hb4
              go_wp2
              go_roundw
              case rel => exact ⟨k + 1, by omega, by go_num, Lib.hid ⟨hW4, hB4⟩⟩
              case measure => simp [intOf]; omega
            | false =>
              have HTR := Lib.hid (numRow_item ht)
              have hnb := numV_bd o.n
              have HNB : Hid (numV o.n < 9223372036854775808) := Lib.hid (by omega)
              rw [ht] at c0
              clear ht hnb
              go_wp2_with fail
              refine (number_any _ _ n1 n2).mono ?_
              rintro e w' ⟨rfl, rfl⟩
              go_wp2_with fail
              refine (wob_num _ hW (by decide) (by decide) (by simp only; omega) HNB.out).mono ?_
              rintro e w4 ⟨rfl, hW4, hb4⟩
              rw [HTR.out, HLT.out] at hW4
              have hB4 := hB.trans (hb4.below hwb hNN)
              clear hW hB hb4
              go_wp2
              go_roundw
              case rel => exact ⟨k + 1, by omega, by go_num, Lib.hid ⟨hW4, hB4⟩⟩
              case measure => simp [intOf]; omega
          · obtain ⟨hW, hB⟩ := HI.out
            rw [List.take_of_length_le (by omega)] at hW
            have q2 : decide ((k : Int) < os.length) = false := decide_eq_false (by omega)
            have HH4 := Lib.hid (HH.out.below hB hpos)
            clear HI
            go_wp2_with fail
            refine (wob_done hW HH4.out).mono ?_
            rintro e w5 ⟨rfl, hb5, _⟩
            have hB5 := hB.trans (hb5.mono hB.size)
            clear hW hB hb5 HH4
            have hel := enc_len os
            have hel2 : (enc os).length ≤ 2147483647 := by omega
            obtain ⟨q, hq⟩ : ∃ q, enc os = q := ⟨_, rfl⟩
            rw [hq] at hel ⊢
            have HQ := Lib.hid hq
            clear hq
            unfold str
            by_cases hemp : q = []
            · have i1 : (!q.isEmpty) = false := by rw [hemp]; rfl
              clear hemp
              go_wp2_with fail
              refine gen_world (fun W6 => Below w.heap.size w W6 ∧ w5.heap.size + 1 < W6.heap.size ∧ (W6.cell? ⟨w5.heap.size, 0, none⟩ = some (.string ⟨q.toArray⟩) ∧ W6.cell? ⟨w5.heap.size, 1, none⟩ = some (.string (⟨q.toArray⟩ ++ ⟨#[120]⟩ ++ more))) ∧ (W6.cell? ⟨w5.heap.size + 1, 0, none⟩ = some (.int .i64 0) ∧ W6.cell? ⟨w5.heap.size + 1, 1, none⟩ = some (.int .i64 33))) ⟨(hB5.alloc hB5.size _).alloc (by have := hB5.size; simp; omega) _, by simp, by simp, by simp⟩ ?_
              rintro w6 ⟨hB6, hs6, ⟨cT0, cT1⟩, ⟨cW0, cW1⟩⟩
              obtain ⟨T, hTe⟩ : ∃ T, T = w5.heap.size := ⟨_, rfl⟩
              obtain ⟨W, hWe⟩ : ∃ W, W = w5.heap.size + 1 := ⟨_, rfl⟩
              have hT : T < w6.heap.size := by omega
              have hW6 : W < w6.heap.size := by omega
              rw [← hWe, ← hTe]
              rw [← hTe] at cT0 cT1
              rw [← hWe] at cW0 cW1
              obtain ⟨tx0, htx⟩ : ∃ tx0 : ByteArray, tx0 = ⟨q.toArray⟩ := ⟨_, rfl⟩
              have htx0 : tx0.data.toList = (rd0 os 0).1 := by rw [htx]; exact rd0_zero HQ.out
              rw [← htx] at cT0 cT1 ⊢
              obtain ⟨tx1, htx'⟩ : ∃ tx1 : ByteArray, tx1 = tx0 ++ ⟨#[120]⟩ ++ more := ⟨_, rfl⟩
              have htx1 : tx1.data.toList = (rd1 os more 0).1 := by rw [htx', htx]; exact rd1_zero HQ.out
              rw [← htx'] at cT1 ⊢
              clear htx htx' hTe hWe hs6 hB5 i1
              go_loopw [14] (fun j wr => ∃ i : Int, j = .int .i64 i ∧ (0 ≤ i ∧ i ≤ 2) ∧ Hid (Below w6.heap.size w6 wr)) (fun j _ => (2 - intOf j).toNat)
              case atStart => exact ⟨0, rfl, by decide, Lib.hid (Below.refl _ _)⟩
              case round =>
                obtain ⟨i, rfl, hi, HB6⟩ := hrel
                have hB6r := HB6.out
                clear HB6
                have hi4 : i = 0 ∨ i = 1 ∨ i = 2 := by omega
                clear hi
                rcases hi4 with rfl | rfl | rfl
                · have hcT : wr.cell? ⟨T, 0, none⟩ = some (.string tx0) := (hB6r.cell (p := ⟨T, 0, none⟩) hT).trans cT0
                  go_wp2_with fail
                  refine (newReader_any _ _).mono ?_
                  rintro e w7 ⟨rb, rg, rfl, hR, hb7, hrb, hrg⟩
                  rw [show tx0.data.toList = (rd0 os 0).1 from htx0] at hR
                  have hB7 : Below w6.heap.size w6 w7 := hB6r.trans (hb7.mono hB6r.size)
                  have hR0 : Rdr w7 rb rg (rd0 os 0) := hR
                  have hrb6 : w6.heap.size ≤ rb := Nat.le_trans hB6r.size hrb
                  have HR := Lib.hid (And.intro hR0 hB7)
                  clear hR hb7 hB7 hR0 hcT hrb hrg hB6r
                  obtain ⟨wo2, rfl⟩ : ∃ wo2 : World, wo2 = wr := ⟨_, rfl⟩
                  go_wp2
                  go_loopw [16] (fun j wq => ∃ k : Nat, k ≤ os.length ∧ j = .int .i64 k ∧ Hid (Rdr wq rb rg (rd0 os k) ∧ Below w6.heap.size w6 wq)) (fun j _ => os.length - (intOf j).toNat)
                  case atStart => exact ⟨0, by omega, rfl, HR⟩
                  case round =>
                    clear HR
                    obtain ⟨k, hk, rfl, HR⟩ := hrel
                    obtain ⟨hR, hB⟩ := HR.out
                    clear HR
                    by_cases hlt : k < os.length
                    · obtain ⟨hok, b, off, hx, hbl, hat⟩ := HS.out.2 k hlt
                      have hst := rd0_step (os := os) hlt
                      have hlr := rd0_len os k
                      generalize os[k] = o at hok hat hst
                      subst hx
                      obtain ⟨c0, c1, c2, c3⟩ := (hat.kept (hB6.block b hbl)).kept (hB.block b (Nat.lt_of_lt_of_le hbl hB6.size))
                      have HST := Lib.hid hst
                      have q1 : (0 : Int) ≤ k := by omega
                      have q2 : (k : Int) < os.length := by omega
                      clear hst hat
                      go_wp2_with fail
                      refine (gets_any _ rb rg _ o hR (by omega) hok).mono ?_
                      rintro e w8 ⟨rfl, hR8, hu8⟩
                      rw [HST.out.2] at hR8
                      rw [HST.out.1]
                      have hB8 : Below w6.heap.size w6 w8 := hB.trans (hu8.below (fun x hx => by simp at hx; omega) hB.size)
                      clear hR hB hu8 c0 c1 c2 c3
                      go_wp2
                      go_roundw
                      case rel => exact ⟨k + 1, by omega, by go_num, Lib.hid ⟨hR8, hB8⟩⟩
                      case measure => simp [intOf]; omega
                    · have hke : k = os.length := by omega
                      rw [hke, rd0_end] at hR
                      have q2 : decide ((k : Int) < os.length) = false := decide_eq_false (by omega)
                      clear hke
                      have a1 : wr.cell? ⟨W, 0, none⟩ = some (.int .i64 0) := (hB.cell (p := ⟨W, 0, none⟩) hW6).trans cW0
                      have HRD := Lib.hid (hR.below (below_drew_self' wr))
                      have HHD := Lib.hid (HH.out.below ((hB6.trans (hB.mono hB6.size)).trans ((below_drew_self' wr).mono (Nat.le_trans hB6.size hB.size))) hpos)
                      go_wp2
                      first
                        | (go_region_law ((go_simp; (with_reducible refine (rdone_any _ rb rg _ HRD.out HHD.out).mono ?_); rintro e w9 ⟨rfl, hb9⟩; rw [show doneR _ = 0 from rfl]; have hB9 : Below w6.heap.size w6 w9 := (hB.trans ((below_drew_self' wr).mono hB.size)).trans (hb9.mono hB.size); have HR9 := Lib.hid (HRD.out.below hb9); have z1 := (hB9.cell (p := ⟨W, 0, none⟩) hW6).trans cW0; dsimp only)))
                        | fail
                      all_goals
                        go_wp2
                        go_roundw
                        case rel => exact ⟨1, rfl, by decide, Lib.hid hB9⟩
                        case measure => simp [intOf]
                · have hcT : wr.cell? ⟨T, 1, none⟩ = some (.string tx1) := (hB6r.cell (p := ⟨T, 1, none⟩) hT).trans cT1
                  go_wp2_with fail
                  refine (newReader_any _ _).mono ?_
                  rintro e w7 ⟨rb, rg, rfl, hR, hb7, hrb, hrg⟩
                  rw [show tx1.data.toList = (rd1 os more 0).1 from htx1] at hR
                  have hB7 : Below w6.heap.size w6 w7 := hB6r.trans (hb7.mono hB6r.size)
                  have hR0 : Rdr w7 rb rg (rd1 os more 0) := hR
                  have hrb6 : w6.heap.size ≤ rb := Nat.le_trans hB6r.size hrb
                  have HR := Lib.hid (And.intro hR0 hB7)
                  clear hR hb7 hB7 hR0 hcT hrb hrg hB6r
                  obtain ⟨wo2, rfl⟩ : ∃ wo2 : World, wo2 = wr := ⟨_, rfl⟩
                  go_wp2
                  go_loopw [16] (fun j wq => ∃ k : Nat, k ≤ os.length ∧ j = .int .i64 k ∧ Hid (Rdr wq rb rg (rd1 os more k) ∧ Below w6.heap.size w6 wq)) (fun j _ => os.length - (intOf j).toNat)
                  case atStart => exact ⟨0, by omega, rfl, HR⟩
                  case round =>
                    clear HR
                    obtain ⟨k, hk, rfl, HR⟩ := hrel
                    obtain ⟨hR, hB⟩ := HR.out
                    clear HR
                    by_cases hlt : k < os.length
                    · obtain ⟨hok, b, off, hx, hbl, hat⟩ := HS.out.2 k hlt
                      have hst := rd1_step (os := os) (more := more) hlt
                      have hlr := rd1_len os more k
                      generalize os[k] = o at hok hat hst
                      subst hx
                      obtain ⟨c0, c1, c2, c3⟩ := (hat.kept (hB6.block b hbl)).kept (hB.block b (Nat.lt_of_lt_of_le hbl hB6.size))
                      have HST := Lib.hid hst
                      have q1 : (0 : Int) ≤ k := by omega
                      have q2 : (k : Int) < os.length := by omega
                      clear hst hat
                      go_wp2_with fail
                      refine (gets_any _ rb rg _ o hR (by omega) hok).mono ?_
                      rintro e w8 ⟨rfl, hR8, hu8⟩
                      rw [HST.out.2] at hR8
                      rw [HST.out.1]
                      have hB8 : Below w6.heap.size w6 w8 := hB.trans (hu8.below (fun x hx => by simp at hx; omega) hB.size)
                      clear hR hB hu8 c0 c1 c2 c3
                      go_wp2
                      go_roundw
                      case rel => exact ⟨k + 1, by omega, by go_num, Lib.hid ⟨hR8, hB8⟩⟩
                      case measure => simp [intOf]; omega
                    · have hke : k = os.length := by omega
                      rw [hke, rd1_end] at hR
                      have q2 : decide ((k : Int) < os.length) = false := decide_eq_false (by omega)
                      clear hke
                      have a1 : wr.cell? ⟨W, 1, none⟩ = some (.int .i64 33) := (hB.cell (p := ⟨W, 1, none⟩) hW6).trans cW1
                      have HRD := Lib.hid (hR.below (below_drew_self' wr))
                      have HHD := Lib.hid (HH.out.below ((hB6.trans (hB.mono hB6.size)).trans ((below_drew_self' wr).mono (Nat.le_trans hB6.size hB.size))) hpos)
                      go_wp2
                      first
                        | (go_region_law ((go_simp; (with_reducible refine (rdone_any _ rb rg _ HRD.out HHD.out).mono ?_); rintro e w9 ⟨rfl, hb9⟩; rw [show doneR _ = 33 from rfl]; have hB9 : Below w6.heap.size w6 w9 := (hB.trans ((below_drew_self' wr).mono hB.size)).trans (hb9.mono hB.size); have HR9 := Lib.hid (HRD.out.below hb9); have z1 := (hB9.cell (p := ⟨W, 1, none⟩) hW6).trans cW1; dsimp only)))
                        | fail
                      all_goals
                        go_wp2
                        go_roundw
                        case rel => exact ⟨2, rfl, by decide, Lib.hid hB9⟩
                        case measure => simp [intOf]
                · have hfin := hB6.trans (hB6r.mono hB6.size)
                  go_wp2
                  go_ret
                  exact ⟨rfl, hfin⟩
            · have i1 : (!q.isEmpty) = true := by cases q with
                | nil => exact absurd rfl hemp
                | cons a l => rfl
              have i2 : (1 : Int) ≤ q.length := by cases q with
                | nil => exact absurd rfl hemp
                | cons a l => simp; omega
              have hosn : os ≠ [] := fun h => hemp (by rw [← HQ.out, h]; rfl)
              go_wp2_with fail
              generalize (Question.appendCap 3 2 9).cut (w5.tape w5.drawn (Question.appendCap 3 2 9)) = cc
              have hz5 := hB5.size
              refine gen_world (fun W6 => Below w.heap.size w W6 ∧ w5.heap.size + 1 + 1 + 1 < W6.heap.size ∧ (W6.cell? ⟨w5.heap.size + 1 + 1 + 1, 0, none⟩ = some (.string ⟨q.toArray⟩) ∧ W6.cell? ⟨w5.heap.size + 1 + 1 + 1, 1, none⟩ = some (.string (⟨q.toArray⟩ ++ ⟨#[120]⟩ ++ more)) ∧ W6.cell? ⟨w5.heap.size + 1 + 1 + 1, 2, none⟩ = some (.string ((⟨q.toArray⟩ : ByteArray).extract 0 (q.length - 1)))) ∧ (W6.cell? ⟨w5.heap.size + 1, 0, none⟩ = some (.int .i64 0) ∧ W6.cell? ⟨w5.heap.size + 1, 1, none⟩ = some (.int .i64 33) ∧ W6.cell? ⟨w5.heap.size + 1, 2, none⟩ = some (.int .i64 32))) ⟨((((hB5.alloc hz5 _).alloc (by simp; omega) _).alloc (by simp; omega) _).alloc (by simp; omega) _).drew, by simp, ⟨(new4 _ _ _ _ _ _ _).1 0 _ (first3 _ _ _ _).1, (new4 _ _ _ _ _ _ _).1 1 _ (first3 _ _ _ _).2.1, (new4 _ _ _ _ _ _ _).1 2 _ (first3 _ _ _ _).2.2⟩, ⟨(new4 _ _ _ _ _ _ _).2 0 _ rfl, (new4 _ _ _ _ _ _ _).2 1 _ rfl, (new4 _ _ _ _ _ _ _).2 2 _ rfl⟩⟩ ?_
              rintro w6 ⟨hB6, hs6, ⟨cT0, cT1, cT2⟩, ⟨cW0, cW1, cW2⟩⟩
              obtain ⟨T, hTe⟩ : ∃ T, T = w5.heap.size + 1 + 1 + 1 := ⟨_, rfl⟩
              obtain ⟨W, hWe⟩ : ∃ W, W = w5.heap.size + 1 := ⟨_, rfl⟩
              have hT : T < w6.heap.size := by omega
              have hW6 : W < w6.heap.size := by omega
              rw [← hTe] at cT0 cT1 cT2 ⊢
              rw [← hWe] at cW0 cW1 cW2 ⊢
              obtain ⟨tx2, htx''⟩ : ∃ tx2 : ByteArray, tx2 = (⟨q.toArray⟩ : ByteArray).extract 0 (q.length - 1) := ⟨_, rfl⟩
              have htx2 : tx2.data.toList = (rd2 os 0).1 := by rw [htx'']; exact rd2_zero hosn HQ.out
              rw [← htx''] at cT2 ⊢
              obtain ⟨tx0, htx⟩ : ∃ tx0 : ByteArray, tx0 = ⟨q.toArray⟩ := ⟨_, rfl⟩
              have htx0 : tx0.data.toList = (rd0 os 0).1 := by rw [htx]; exact rd0_zero HQ.out
              rw [← htx] at cT0 cT1 ⊢
              obtain ⟨tx1, htx'⟩ : ∃ tx1 : ByteArray, tx1 = tx0 ++ ⟨#[120]⟩ ++ more := ⟨_, rfl⟩
              have htx1 : tx1.data.toList = (rd1 os more 0).1 := by rw [htx', htx]; exact rd1_zero HQ.out
              rw [← htx'] at cT1 ⊢
              clear htx htx' htx'' hTe hWe hs6 hB5 hz5 i1 i2
              go_loopw [14] (fun j wr => ∃ i : Int, j = .int .i64 i ∧ (0 ≤ i ∧ i ≤ 3) ∧ Hid (Below w6.heap.size w6 wr)) (fun j _ => (3 - intOf j).toNat)
              case atStart => exact ⟨0, rfl, by decide, Lib.hid (Below.refl _ _)⟩
              case round =>
                obtain ⟨i, rfl, hi, HB6⟩ := hrel
                have hB6r := HB6.out
                clear HB6
                have hi4 : i = 0 ∨ i = 1 ∨ i = 2 ∨ i = 3 := by omega
                clear hi
                rcases hi4 with rfl | rfl | rfl | rfl
                · have hcT : wr.cell? ⟨T, 0, none⟩ = some (.string tx0) := (hB6r.cell (p := ⟨T, 0, none⟩) hT).trans cT0
                  go_wp2_with fail
                  refine (newReader_any _ _).mono ?_
                  rintro e w7 ⟨rb, rg, rfl, hR, hb7, hrb, hrg⟩
                  rw [show tx0.data.toList = (rd0 os 0).1 from htx0] at hR
                  have hB7 : Below w6.heap.size w6 w7 := hB6r.trans (hb7.mono hB6r.size)
                  have hR0 : Rdr w7 rb rg (rd0 os 0) := hR
                  have hrb6 : w6.heap.size ≤ rb := Nat.le_trans hB6r.size hrb
                  have HR := Lib.hid (And.intro hR0 hB7)
                  clear hR hb7 hB7 hR0 hcT hrb hrg hB6r
                  obtain ⟨wo2, rfl⟩ : ∃ wo2 : World, wo2 = wr := ⟨_, rfl⟩
                  go_wp2
                  go_loopw [16] (fun j wq => ∃ k : Nat, k ≤ os.length ∧ j = .int .i64 k ∧ Hid (Rdr wq rb rg (rd0 os k) ∧ Below w6.heap.size w6 wq)) (fun j _ => os.length - (intOf j).toNat)
                  case atStart => exact ⟨0, by omega, rfl, HR⟩
                  case round =>
                    clear HR
                    obtain ⟨k, hk, rfl, HR⟩ := hrel
                    obtain ⟨hR, hB⟩ := HR.out
                    clear HR
                    by_cases hlt : k < os.length
                    · obtain ⟨hok, b, off, hx, hbl, hat⟩ := HS.out.2 k hlt
                      have hst := rd0_step (os := os) hlt
                      have hlr := rd0_len os k
                      generalize os[k] = o at hok hat hst
                      subst hx
                      obtain ⟨c0, c1, c2, c3⟩ := (hat.kept (hB6.block b hbl)).kept (hB.block b (Nat.lt_of_lt_of_le hbl hB6.size))
                      have HST := Lib.hid hst
                      have q1 : (0 : Int) ≤ k := by omega
                      have q2 : (k : Int) < os.length := by omega
                      clear hst hat
                      go_wp2_with fail
                      refine (gets_any _ rb rg _ o hR (by omega) hok).mono ?_
                      rintro e w8 ⟨rfl, hR8, hu8⟩
                      rw [HST.out.2] at hR8
                      rw [HST.out.1]
                      have hB8 : Below w6.heap.size w6 w8 := hB.trans (hu8.below (fun x hx => by simp at hx; omega) hB.size)
                      clear hR hB hu8 c0 c1 c2 c3
                      go_wp2
                      go_roundw
                      case rel => exact ⟨k + 1, by omega, by go_num, Lib.hid ⟨hR8, hB8⟩⟩
                      case measure => simp [intOf]; omega
                    · have hke : k = os.length := by omega
                      rw [hke, rd0_end] at hR
                      have q2 : decide ((k : Int) < os.length) = false := decide_eq_false (by omega)
                      clear hke
                      have a1 : wr.cell? ⟨W, 0, none⟩ = some (.int .i64 0) := (hB.cell (p := ⟨W, 0, none⟩) hW6).trans cW0
                      have HRD := Lib.hid (hR.below (below_drew_self' wr))
                      have HHD := Lib.hid (HH.out.below ((hB6.trans (hB.mono hB6.size)).trans ((below_drew_self' wr).mono (Nat.le_trans hB6.size hB.size))) hpos)
                      go_wp2
                      first
                        | (go_region_law ((go_simp; (with_reducible refine (rdone_any _ rb rg _ HRD.out HHD.out).mono ?_); rintro e w9 ⟨rfl, hb9⟩; rw [show doneR _ = 0 from rfl]; have hB9 : Below w6.heap.size w6 w9 := (hB.trans ((below_drew_self' wr).mono hB.size)).trans (hb9.mono hB.size); have HR9 := Lib.hid (HRD.out.below hb9); have z1 := (hB9.cell (p := ⟨W, 0, none⟩) hW6).trans cW0; dsimp only)))
                        | fail
                      all_goals
                        go_wp2
                        go_roundw
                        case rel => exact ⟨1, rfl, by decide, Lib.hid hB9⟩
                        case measure => simp [intOf]
                · have hcT : wr.cell? ⟨T, 1, none⟩ = some (.string tx1) := (hB6r.cell (p := ⟨T, 1, none⟩) hT).trans cT1
                  go_wp2_with fail
                  refine (newReader_any _ _).mono ?_
                  rintro e w7 ⟨rb, rg, rfl, hR, hb7, hrb, hrg⟩
                  rw [show tx1.data.toList = (rd1 os more 0).1 from htx1] at hR
                  have hB7 : Below w6.heap.size w6 w7 := hB6r.trans (hb7.mono hB6r.size)
                  have hR0 : Rdr w7 rb rg (rd1 os more 0) := hR
                  have hrb6 : w6.heap.size ≤ rb := Nat.le_trans hB6r.size hrb
                  have HR := Lib.hid (And.intro hR0 hB7)
                  clear hR hb7 hB7 hR0 hcT hrb hrg hB6r
                  obtain ⟨wo2, rfl⟩ : ∃ wo2 : World, wo2 = wr := ⟨_, rfl⟩
                  go_wp2
                  go_loopw [16] (fun j wq => ∃ k : Nat, k ≤ os.length ∧ j = .int .i64 k ∧ Hid (Rdr wq rb rg (rd1 os more k) ∧ Below w6.heap.size w6 wq)) (fun j _ => os.length - (intOf j).toNat)
                  case atStart => exact ⟨0, by omega, rfl, HR⟩
                  case round =>
                    clear HR
                    obtain ⟨k, hk, rfl, HR⟩ := hrel
                    obtain ⟨hR, hB⟩ := HR.out
                    clear HR
                    by_cases hlt : k < os.length
                    · obtain ⟨hok, b, off, hx, hbl, hat⟩ := HS.out.2 k hlt
                      have hst := rd1_step (os := os) (more := more) hlt
                      have hlr := rd1_len os more k
                      generalize os[k] = o at hok hat hst
                      subst hx
                      obtain ⟨c0, c1, c2, c3⟩ := (hat.kept (hB6.block b hbl)).kept (hB.block b (Nat.lt_of_lt_of_le hbl hB6.size))
                      have HST := Lib.hid hst
                      have q1 : (0 : Int) ≤ k := by omega
                      have q2 : (k : Int) < os.length := by omega
                      clear hst hat
                      go_wp2_with fail
                      refine (gets_any _ rb rg _ o hR (by omega) hok).mono ?_
                      rintro e w8 ⟨rfl, hR8, hu8⟩
                      rw [HST.out.2] at hR8
                      rw [HST.out.1]
                      have hB8 : Below w6.heap.size w6 w8 := hB.trans (hu8.below (fun x hx => by simp at hx; omega) hB.size)
                      clear hR hB hu8 c0 c1 c2 c3
                      go_wp2
                      go_roundw
                      case rel => exact ⟨k + 1, by omega, by go_num, Lib.hid ⟨hR8, hB8⟩⟩
                      case measure => simp [intOf]; omega
                    · have hke : k = os.length := by omega
                      rw [hke, rd1_end] at hR
                      have q2 : decide ((k : Int) < os.length) = false := decide_eq_false (by omega)
                      clear hke
                      have a1 : wr.cell? ⟨W, 1, none⟩ = some (.int .i64 33) := (hB.cell (p := ⟨W, 1, none⟩) hW6).trans cW1
                      have HRD := Lib.hid (hR.below (below_drew_self' wr))
                      have HHD := Lib.hid (HH.out.below ((hB6.trans (hB.mono hB6.size)).trans ((below_drew_self' wr).mono (Nat.le_trans hB6.size hB.size))) hpos)
                      go_wp2
                      first
                        | (go_region_law ((go_simp; (with_reducible refine (rdone_any _ rb rg _ HRD.out HHD.out).mono ?_); rintro e w9 ⟨rfl, hb9⟩; rw [show doneR _ = 33 from rfl]; have hB9 : Below w6.heap.size w6 w9 := (hB.trans ((below_drew_self' wr).mono hB.size)).trans (hb9.mono hB.size); have HR9 := Lib.hid (HRD.out.below hb9); have z1 := (hB9.cell (p := ⟨W, 1, none⟩) hW6).trans cW1; dsimp only)))
                        | fail
                      all_goals
                        go_wp2
                        go_roundw
                        case rel => exact ⟨2, rfl, by decide, Lib.hid hB9⟩
                        case measure => simp [intOf]
                · have hcT : wr.cell? ⟨T, 2, none⟩ = some (.string tx2) := (hB6r.cell (p := ⟨T, 2, none⟩) hT).trans cT2
                  go_wp2_with fail
                  refine (newReader_any _ _).mono ?_
                  rintro e w7 ⟨rb, rg, rfl, hR, hb7, hrb, hrg⟩
                  rw [show tx2.data.toList = (rd2 os 0).1 from htx2] at hR
                  have hB7 : Below w6.heap.size w6 w7 := hB6r.trans (hb7.mono hB6r.size)
                  have hR0 : Rdr w7 rb rg (rd2 os 0) := by
                    have e : rd2 os 0 = ((rd2 os 0).1, 0) := by rw [rd2, if_pos (List.length_pos_iff.2 hosn)]
                    rw [e]; exact hR
                  have hrb6 : w6.heap.size ≤ rb := Nat.le_trans hB6r.size hrb
                  have HR := Lib.hid (And.intro hR0 hB7)
                  clear hR hb7 hB7 hR0 hcT hrb hrg hB6r
                  obtain ⟨wo2, rfl⟩ : ∃ wo2 : World, wo2 = wr := ⟨_, rfl⟩
                  go_wp2
                  go_loopw [16] (fun j wq => ∃ k : Nat, k ≤ os.length ∧ j = .int .i64 k ∧ Hid (Rdr wq rb rg (rd2 os k) ∧ Below w6.heap.size w6 wq)) (fun j _ => os.length - (intOf j).toNat)
                  case atStart => exact ⟨0, by omega, rfl, HR⟩
                  case round =>
                    clear HR
                    obtain ⟨k, hk, rfl, HR⟩ := hrel
                    obtain ⟨hR, hB⟩ := HR.out
                    clear HR
                    by_cases hlt : k < os.length
                    · obtain ⟨hok, b, off, hx, hbl, hat⟩ := HS.out.2 k hlt
                      have hst := rd2_step (os := os) hlt
                      have hlr := rd2_len os k
                      generalize os[k] = o at hok hat hst
                      subst hx
                      obtain ⟨c0, c1, c2, c3⟩ := (hat.kept (hB6.block b hbl)).kept (hB.block b (Nat.lt_of_lt_of_le hbl hB6.size))
                      have HST := Lib.hid hst
                      have q1 : (0 : Int) ≤ k := by omega
                      have q2 : (k : Int) < os.length := by omega
                      clear hst hat
                      go_wp2_with fail
                      refine (gets_any _ rb rg _ o hR (by omega) hok).mono ?_
                      rintro e w8 ⟨rfl, hR8, hu8⟩
                      rw [HST.out] at hR8
                      generalize getI (rd2 os k) o = gq
                      have hB8 : Below w6.heap.size w6 w8 := hB.trans (hu8.below (fun x hx => by simp at hx; omega) hB.size)
                      clear hR hB hu8 c0 c1 c2 c3
                      cases gq with
                      | true =>
                        go_wp2
                        go_roundw
                        case rel => exact ⟨k + 1, by omega, by go_num, Lib.hid ⟨hR8, hB8⟩⟩
                        case measure => simp [intOf]; omega
                      | false =>
                        go_wp2
                        go_roundw
                        case rel => exact ⟨k + 1, by omega, by go_num, Lib.hid ⟨hR8, hB8⟩⟩
                        case measure => simp [intOf]; omega
                    · have hke : k = os.length := by omega
                      rw [hke, rd2_end] at hR
                      have q2 : decide ((k : Int) < os.length) = false := decide_eq_false (by omega)
                      clear hke
                      have a1 : wr.cell? ⟨W, 2, none⟩ = some (.int .i64 32) := (hB.cell (p := ⟨W, 2, none⟩) hW6).trans cW2
                      have HRD := Lib.hid (hR.below (below_drew_self' wr))
                      have HHD := Lib.hid (HH.out.below ((hB6.trans (hB.mono hB6.size)).trans ((below_drew_self' wr).mono (Nat.le_trans hB6.size hB.size))) hpos)
                      go_wp2
                      first
                        | (go_region_law ((first | (go_simp; (with_reducible refine (rdone_any _ rb rg _ HRD.out HHD.out).mono ?_); rintro e w9 ⟨rfl, hb9⟩; rw [show doneR _ = 32 from rfl]; have hB9 : Below w6.heap.size w6 w9 := (hB.trans ((below_drew_self' wr).mono hB.size)).trans (hb9.mono hB.size); have HR9 := Lib.hid (HRD.out.below hb9); have z1 := (hB9.cell (p := ⟨W, 2, none⟩) hW6).trans cW2; dsimp only) | (go_simp; (with_reducible refine (left_any _ rb rg _ HR9.out).mono ?_); rintro e w' ⟨rfl, rfl⟩; dsimp only))))
                        | fail
                      all_goals
                        go_wp2
                        go_roundw
                        case rel => exact ⟨3, rfl, by decide, Lib.hid hB9⟩
                        case measure => simp [intOf]
                · have hfin := hB6.trans (hB6r.mono hB6.size)
                  go_wp2
                  go_ret
                  exact ⟨rfl, hfin⟩
      · have hd2 : decide (2147483647 < sat t) = true := decide_eq_true (by rw [sat_great hb]; decide)
        go_wp2
        go_ret
        obtain ⟨m, rfl⟩ := HM.out
        exact ⟨rfl, ⟨rfl, rfl, rfl, Nat.le_refl _, fun _ _ => rfl⟩⟩
end Go.Proofs.YtcfnkphdmkepaaaDoor
