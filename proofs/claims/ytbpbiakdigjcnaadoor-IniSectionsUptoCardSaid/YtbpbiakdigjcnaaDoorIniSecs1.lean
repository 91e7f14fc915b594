/-
  The walk of IniSections.
-/
import Derived.Test.YtbpbiakdigjcnaaDoorIniSecMath
namespace Go.Proofs.YtbpbiakdigjcnaaDoor
open Go.ChangeShapes Go.WideShapes Go.ChangeAt Go.RowKit

theorem own8_more {w0 w w' : World} {v v' : Value} {b b' : List UInt8} (h : Own8 w0 w v b) (ho : w'.ownsRow w0.heap.size 5 1 v' b'.length (b'.map b8)) (hg : w.grownBy w' v.ownBlock) : Own8 w0 w' v' b' :=
  ⟨ho, h.below.grown hg h.below.size (fun k hk => (h.own.lt k hk).1)⟩
/-- What lines are printed as. -/
theorem secs_print (ls : List LineV) (hn : ls.length ≤ 4294967280) (hF : Fit ls) :
    ∃ (T : ByteArray) (E : Int), (E = 0 ∧ (∃ b, printF ls = some b) ∨ E = 1) ∧
      ∀ (x : Option Addr) (c : Nat) (W : World), Lns W x ls → Tab W → Calls Tryd.prog 14 #[.slice x ls.length c] W (fun e w' => e = .returned (.tuple #[.string T, .int .i64 E]) ∧ Below W.heap.size W w') := by
  cases h : printF ls with
  | some b =>
    refine ⟨mkB b, 0, .inl ⟨rfl, b, rfl⟩, fun x c W hl hT => ?_⟩
    have := print_any x c ls W hl hT hn hF
    rw [h] at this
    exact this
  | none =>
    refine ⟨⟨#[]⟩, 1, .inr rfl, fun x c W hl hT => ?_⟩
    have := print_any x c ls W hl hT hn hF
    rw [h] at this
    exact this
/-- One line printed alone. -/
theorem secs_one (l : LineV) (hn : nameB l.name.data.toList = true) (ht : l.text.size ≤ 200) (W : World) (t : TypeId) (hT : Tab W) :
    Calls Tryd.prog 14 #[.slice (some ⟨W.heap.size, 0, none⟩) 1 1] (W.alloc (Obj.cells #[.string l.name, .string l.text, .int .i64 0] t)).drew (fun e w' => e = .returned (.tuple #[.string (mkB (entryL l)), .int .i64 0]) ∧ Below W.heap.size W w') := by
  have b1 := below_one W (Obj.cells #[.string l.name, .string l.text, .int .i64 0] t)
  have hl : Lns (W.alloc (Obj.cells #[.string l.name, .string l.text, .int .i64 0] t)) (some ⟨W.heap.size, 0, none⟩) [⟨l.name, l.text, 0⟩] :=
    Lns.of_cells (by simp) fun j u hj => by
      rw [Nat.zero_add, World.cell?_alloc_at _ _ _ _ rfl]
      simpa [flatL, lCells] using hj
  generalize W.alloc (Obj.cells #[.string l.name, .string l.text, .int .i64 0] t) = W1 at b1 hl
  have b2 := b1.trans ((below_drewN W1 1).mono b1.size)
  have h32 := name_len hn
  have h4 : l.name.data.toList.length = l.name.size := by simp
  have := print_any (some ⟨W.heap.size, 0, none⟩) 1 [⟨l.name, l.text, 0⟩] W1.drew (hl.below (below_drewN W1 1)) (hT.below b2) (by simp) (fun a ha => by
    obtain rfl := List.mem_singleton.1 ha
    simp only
    omega)
  rw [one_line l hn ht] at this
  refine this.mono ?_
  rintro e w' ⟨rfl, hb⟩
  exact ⟨rfl, b2.trans (hb.mono b2.size)⟩

set_option maxHeartbeats 12800000 in
set_option maxRecDepth 100000 in
theorem iniSections_any (x : Option Addr) (c : Nat) (ls : List LineV) (y : Option Addr) (d : Nat) (rs : List Int) (w : World) (hL : Lns w x ls) (hm : ls.length ≤ maxLen) (hz : ∀ l ∈ ls, l.name.size ≤ maxLen ∧ l.text.size ≤ maxLen)
    (hR : Ints w y rs) (hrm : rs.length ≤ maxLen) (hrr : ∀ r ∈ rs, -9223372036854775808 ≤ r ∧ r ≤ 9223372036854775807) (hT : Tab w) (hI : MaxI w) :
    Calls Tryd.prog 7 #[.slice x ls.length c, .slice y rs.length d] w fun e w' => e = .returned (.bool true) ∧ Below w.heap.size w w' := by
  obtain ⟨N, hN⟩ : ∃ N, ls.length = N := ⟨_, rfl⟩
  obtain ⟨R, hRR⟩ : ∃ R, rs.length = R := ⟨_, rfl⟩
  obtain ⟨A, hA⟩ : ∃ A, capB (wN ls) = A := ⟨_, rfl⟩
  have hAi := capB_in (wN ls)
  have HWL : Hid (∀ W, Below w.heap.size w W → Calls Tryd.prog 11 #[.slice x N c] W fun e w' => e = .returned (.int .i64 A) ∧ Below W.heap.size W w') := Lib.hid fun W h => by
    have := weight_any x c ls W (hL.below h) hm hz
    rw [hA, hN] at this
    exact this
  obtain ⟨S1, hS1⟩ : ∃ S, addI A A = S := ⟨_, rfl⟩
  have HA1 : Hid (∀ W, Calls Tryd.prog 8 #[.int .i64 A, .int .i64 A] W fun e w' => e = .returned (.int .i64 S1) ∧ W = w') := Lib.hid fun W => by rw [← hS1]; exact iadd_any A A W (by omega) (by omega) (by omega) (by omega)
  rw [hN, hRR]
  by_cases hb1 : 2147483647 < S1
  · clear hA hS1 hm hz hAi hR hrm hrr
    go_enter Tryd.func7, Tryd.ntmps7
    go_wp2_with fail
    refine (HWL.out _ (Below.refl _ _)).mono ?_
    rintro e w1 ⟨rfl, hb⟩
    have HB1 := Lib.hid hb
    clear hb
    go_wp2_with fail
    refine (HWL.out _ HB1.out).mono ?_
    rintro e w2 ⟨rfl, hb⟩
    have HB2 := Lib.hid (HB1.out.trans (hb.mono HB1.out.size))
    clear hb
    go_wp2_with fail
    refine (HA1.out _).mono ?_
    rintro e w' ⟨rfl, rfl⟩
    go_wp2
    go_ret
    exact ⟨rfl, HB2.out⟩
  have hwA := (addI_le (a := A) (b := A) (by omega) (by omega) (by rw [hS1]; omega)).1
  have hwA2 := capB_le (hA ▸ hwA)
  have hF := fit_of_weight (ls := ls) (by omega)
  have hlen := wN_len ls
  obtain ⟨T, E, hcs, hp1⟩ := secs_print ls (by omega) hF
  rw [hN] at hp1
  have HP1 := Lib.hid hp1
  have HLX : Hid (∀ W, Below w.heap.size w W → Lns W x ls) := Lib.hid fun W hb => hL.below hb
  have HRX : Hid (∀ W, Below w.heap.size w W → Ints W y rs) := Lib.hid fun W hb => hR.below hb
  have HRR : Hid (∀ r ∈ rs, -9223372036854775808 ≤ r ∧ r ≤ 9223372036854775807) := Lib.hid hrr
  have HT : Hid (∀ W, Below w.heap.size w W → Tab W ∧ MaxI W) := Lib.hid fun W hb => ⟨hT.below hb, maxI_below hI hb⟩
  have HAW : Hid (∀ W, Below w.heap.size w W → Calls Tryd.prog 9 #[] W fun e w' => e = .returned (.bool true) ∧ Below W.heap.size W w') := Lib.hid fun W hb => iawake_any W (HT.out W hb).1 (HT.out W hb).2
  have HN := Lib.hid hN
  have HRN := Lib.hid hRR
  have zs1 : (⟨#[91]⟩ : ByteArray).size = 1 := rfl
  have zs2 : (⟨#[93, 10]⟩ : ByteArray).size = 2 := rfl
  have zs3 : (⟨#[]⟩ : ByteArray).size = 0 := rfl
  unfold maxLen at hrm
  rcases hcs with ⟨hE, b, hpb⟩ | hE
  · obtain ⟨hall, hN8⟩ := print_facts hpb
    have HALL : Hid (∀ l ∈ ls, nameB l.name.data.toList = true ∧ l.text.size ≤ 200) := Lib.hid hall
    have HPB := Lib.hid hpb
    have HST := Lib.hid (SecOk.start ls)
    rw [hN] at hN8
    rw [hRR] at hrm
    subst hE
    clear hA hS1 hm hz hAi hwA hwA2 hF hlen hp1 hL hR hrr hT hI hpb hall hN hRR
    go_enter Tryd.func7, Tryd.ntmps7
    go_wp2_with fail
    refine (HWL.out _ (Below.refl _ _)).mono ?_
    rintro e w1 ⟨rfl, hb⟩
    have HB1 := Lib.hid hb
    clear hb
    go_wp2_with fail
    refine (HWL.out _ HB1.out).mono ?_
    rintro e w2 ⟨rfl, hb⟩
    have HB2 := Lib.hid (HB1.out.trans (hb.mono HB1.out.size))
    clear hb
    go_wp2_with fail
    refine (HA1.out _).mono ?_
    rintro e w' ⟨rfl, rfl⟩
    go_wp2_with fail
    refine (HAW.out _ HB2.out).mono ?_
    rintro e w3 ⟨rfl, hb⟩
    have HB3 := Lib.hid (HB2.out.trans (hb.mono HB2.out.size))
    clear hb
    go_wp2_with fail
    refine (HP1.out _ _ _ (HLX.out _ HB3.out) (HT.out _ HB3.out).1).mono ?_
    rintro e w4 ⟨rfl, hb⟩
    have HB4 := Lib.hid (HB3.out.trans (hb.mono HB3.out.size))
    clear hb HB1 HB2 HB3 HWL HA1 HAW HP1
    go_wp2_with fail
    have HO4 : Hid (Own8 w4 w4 (.slice none 0 0) []) := Lib.hid (Own8.nil_ w4)
    go_loopw [8, 9] (fun u i wr => ∃ (t : Nat) (v : Value) (l : List UInt8) (qs : List (List UInt8 × List UInt8)), v = u ∧ i = .int .i64 t ∧ t ≤ N ∧ Hid (SecOk ls qs t l) ∧ Hid (Own8 w4 wr v l)) (fun _ i _ => N - (intOf i).toNat)
    case atStart => exact ⟨0, _, [], [], rfl, rfl, by omega, HST, HO4⟩
    case round =>
      clear HO4 HST
      obtain ⟨wo, rfl⟩ : ∃ wo, wo = wr := ⟨_, rfl⟩
      obtain ⟨t, v, l, qs, rfl, rfl, ht, HQ, HO⟩ := hrel
      obtain ⟨xv, cv, hv⟩ := own_slice HO.out.own
      subst hv
      have HBW := Lib.hid (HB4.out.trans (HO.out.below.mono HB4.out.size))
      by_cases hlt : t < N
      · have htx : t < ls.length := by rw [HN.out]; exact hlt
        obtain ⟨bx, off, hxe, hxl, c0, c1, c2x⟩ := HLX.out _ HBW.out t htx
        obtain ⟨hnm, htz⟩ := HALL.out _ (List.getElem_mem htx)
        have HPU : Hid (∀ q, Halves ls[t].name.data.toList q → SecOk ls (qs ++ [q]) (t + 1) (l ++ secEntry ls[t] q)) := Lib.hid fun q hq => HQ.out.push htx hq (by have := name_len hnm; simpa using this) htz
        have HSO := Lib.hid (secs_one ls[t] hnm htz)
        have HLR := Lib.hid (line_rest ls[t])
        have HEL := entry_len ls[t]
        have hst8 := stand_le htz
        have HSB := Lib.hid (sec_bytes ls[t])
        have hn32 := name_len hnm
        generalize ls[t] = lt at c0 c1 hnm htz HPU HSO HLR HEL hst8 HSB hn32
        obtain ⟨nm, tx, num⟩ := lt
        simp only at c0 c1 hnm htz hn32 HEL hst8
        have hnz : nm.size ≤ 32 := by simpa using hn32
        subst hxe
        have HLC : Hid (∀ W, Below wo.heap.size wo W → W.cell? ⟨bx, off + t * 3, none⟩ = some (.string nm) ∧ W.cell? ⟨bx, off + t * 3 + 1, none⟩ = some (.string tx)) := Lib.hid fun W hb => ⟨by rw [hb.cell (p := ⟨bx, off + t * 3, none⟩) hxl]; exact c0, by rw [hb.cell (p := ⟨bx, off + t * 3 + 1, none⟩) hxl]; exact c1⟩
        obtain ⟨LINE, hLI⟩ : ∃ LINE, mkB (entryL ⟨nm, tx, num⟩) = LINE := ⟨_, rfl⟩
        obtain ⟨LT, hLT⟩ : ∃ LT, LINE.extract nm.size LINE.size = LT := ⟨_, rfl⟩
        have HLB := Lib.hid (HLR.out LINE LT hLI.symm hLT)
        have hlz : nm.size ≤ LINE.size ∧ LINE.size ≤ 1000 := by
          rw [← hLI, len_mkB]
          omega
        have hltz : LT.size ≤ 1000 := by rw [← hLT]; simp; omega
        have hs3 : ∀ W : World, (Instr.slice 9 (.string LINE) (some (.int .i64 (nm.size : Int))) none none).run Tryd.prog W = .ok (.string LT) W := fun W => by
          rw [run_slice_string_from_if (h := Tryd.underlying9), if_pos (by omega), ← hLT]
          congr 3
        have HSP : Hid (∀ W t, Below w.heap.size w W → Calls Tryd.prog 14 #[.slice (some ⟨W.heap.size, 0, none⟩) 1 1] (W.alloc (Obj.cells #[.string nm, .string tx, .int .i64 0] t)).drew (fun e w' => e = .returned (.tuple #[.string LINE, .int .i64 0]) ∧ Below W.heap.size W w')) := Lib.hid fun W t hb => by
          have := HSO.out W t (HT.out W hb).1
          rw [hLI] at this
          exact this
        have HOI : Hid (OwnI wo wo (.slice none 0 0) []) := Lib.hid (OwnI.nil_ wo)
        have q1 : (0 : Int) ≤ t := by omega
        have q2 : (t : Int) < N := by omega
        have hll := HQ.out.2.2.1
        clear c2x htx hLI hLT HSO HLR HEL hst8 hn32 hnm htz c1 HQ
        go_wp2
        go_loopw [10, 11] (fun u i wq => ∃ (k : Nat) (va : Value) (ks : List Nat), va = u ∧ i = .int .i64 k ∧ k ≤ nm.size ∧ ks.length ≤ k ∧ Hid (∀ j ∈ ks, ∃ h : j < nm.size, nm[j] = 46) ∧ Hid (OwnI wo wq va ks)) (fun _ i _ => nm.size - (intOf i).toNat)
        case atStart => exact ⟨0, _, [], rfl, rfl, by omega, by simp, Lib.hid (fun j h => by cases h), HOI⟩
        case round =>
          clear HOI c0
          obtain ⟨k, va, ks, rfl, rfl, hk, hkl, HKS, HOI⟩ := hrel
          obtain ⟨d0, d1⟩ := HLC.out _ HOI.out.below
          by_cases hkt : k < nm.size
          · have q3 : (0 : Int) ≤ k := by omega
            have q4 : (k : Int) < nm.size := by omega
            by_cases h46 : (nm[k].toNat : Int) = 46
            · have e0 : ((nm[k].toNat : Int) == 46) = true := beq_iff_eq.2 h46
              have HKN : Hid (∀ j ∈ ks ++ [k], ∃ h : j < nm.size, nm[j] = 46) := Lib.hid fun j hj => by
                rcases List.mem_append.1 hj with hj | hj
                · exact HKS.out j hj
                · obtain rfl := List.mem_singleton.1 hj
                  exact ⟨hkt, UInt8.toNat_inj.1 (by simp; omega)⟩
              clear h46
              go_wp2_with (at_builtin; refine appendK rfl _ _ rfl HOI.out rfl k rfl rfl (by omega) ?_; intro v5 w5 ho5; obtain ⟨xa5, ca5, hv5⟩ := own_slice ho5.own; rw [show (ks ++ [k]).length = ks.length + 1 by simp] at hv5; subst hv5; have HO5 := Lib.hid ho5; clear ho5)
              go_roundw
              case rel => exact ⟨k + 1, _, _, rfl, by go_num, by omega, by simp; omega, HKN, HO5⟩
              case measure => simp [intOf]; omega
            · have e0 : ((nm[k].toNat : Int) == 46) = false := beq_eq_false_iff_ne.2 h46
              clear h46
              go_wp2
              go_roundw
              case rel => exact ⟨k + 1, _, _, rfl, by go_num, by omega, by omega, HKS, HOI⟩
              case measure => simp [intOf]; omega
          · have hke : k = nm.size := by omega
            subst hke
            have q4 : ¬ (nm.size : Int) < nm.size := by omega
            have HO2 := Lib.hid (HO.out.after HOI.out.below)
            have HB2 := Lib.hid (HBW.out.trans (HOI.out.below.mono HBW.out.size))
            have HLD : Hid (∀ W, Below wr.heap.size wr W → W.cell? ⟨bx, off + t * 3, none⟩ = some (.string nm) ∧ W.cell? ⟨bx, off + t * 3 + 1, none⟩ = some (.string tx)) := Lib.hid fun W hb => HLC.out W (HOI.out.below.trans (hb.mono HOI.out.below.size))
            clear hkt HO HBW
            by_cases hks : ks.length = 0
            · have q5 : ¬ (0 : Int) < (0 : Nat) := by omega
              obtain ⟨xa, ca, hva⟩ := own_slice HOI.out.own
              rw [hks] at hva
              subst hva
              clear HOI HKS hkl hks
              by_cases hr : t < R
              · have hrx : t < rs.length := by rw [HRN.out]; exact hr
                obtain ⟨br, orr, hye, _, g0⟩ := HRX.out _ HB2.out t hrx
                have hrg := HRR.out _ (List.getElem_mem hrx)
                generalize rs[t] = cv2 at g0 hrg
                obtain ⟨hrg1, hrg2⟩ := hrg
                subst hye
                have q6 : (t : Int) < R := by omega
                clear hrx
                have j3 : ¬ 9223372036854775807 < 3 + nm.size := by omega
                have j4 : ¬ 9223372036854775807 < 3 + nm.size + LT.size := by omega
                go_wp2_with fail
                have HSE := Lib.hid (HSB.out (⟨#[]⟩ : ByteArray) nm LT HLB.out)
                have HPN := Lib.hid (HPU.out ((⟨#[]⟩ : ByteArray).data.toList, nm.data.toList) (.inl ⟨rfl, rfl⟩))
                obtain ⟨nl, hnl⟩ : ∃ nl, l ++ secEntry ⟨nm, tx, num⟩ ((⟨#[]⟩ : ByteArray).data.toList, nm.data.toList) = nl := ⟨_, rfl⟩
                obtain ⟨nb, hnb⟩ : ∃ nb, nl.length = nb := ⟨_, rfl⟩
                rw [hnl] at HPN
                have HNL := Lib.hid hnl
                have HNB := Lib.hid hnb
                clear HSB HPU HLB hnl hnb
                go_region_law (first | (go_simp; (with_reducible refine (HSP.out _ _ HB2.out).mono ?_); rintro e w8 ⟨rfl, hb⟩; have HB8 := Lib.hid hb; clear hb; dsimp only))
                all_goals
                  obtain ⟨f0, _⟩ := HLD.out _ HB8.out
                  have HO8 := Lib.hid (HO2.out.after HB8.out)
                  go_wp2_with (at_builtin; refine appendS rfl _ _ rfl HO8.out.own HO8.out.below.size rfl _ rfl (by simp only [ByteArray.size_append]; omega) ?_; intro v9 w9 h1 h2; have h3 : w9.ownsRow w4.heap.size 5 1 v9 nl.length (nl.map b8) := (by rw [← HNL.out, ← HSE.out]; exact h1); obtain ⟨xa9, xc9, hv9⟩ := own_slice h3; rw [HNB.out] at hv9; subst hv9; have HO9 := Lib.hid (own8_more HO8.out h3 h2); clear h1 h2 h3)
                  go_roundw
                  case rel => exact ⟨t + 1, _, _, _, rfl, by go_num, by omega, HPN, HO9⟩
                  case measure => simp [intOf]; omega
              · have q6 : ¬ (t : Int) < R := by omega
                have j3 : ¬ 9223372036854775807 < 3 + nm.size := by omega
                have j4 : ¬ 9223372036854775807 < 3 + nm.size + LT.size := by omega
                go_wp2_with fail
                have HSE := Lib.hid (HSB.out (⟨#[]⟩ : ByteArray) nm LT HLB.out)
                have HPN := Lib.hid (HPU.out ((⟨#[]⟩ : ByteArray).data.toList, nm.data.toList) (.inl ⟨rfl, rfl⟩))
                obtain ⟨nl, hnl⟩ : ∃ nl, l ++ secEntry ⟨nm, tx, num⟩ ((⟨#[]⟩ : ByteArray).data.toList, nm.data.toList) = nl := ⟨_, rfl⟩
                obtain ⟨nb, hnb⟩ : ∃ nb, nl.length = nb := ⟨_, rfl⟩
                rw [hnl] at HPN
                have HNL := Lib.hid hnl
                have HNB := Lib.hid hnb
                clear HSB HPU HLB hnl hnb
                go_region_law (first | (go_simp; (with_reducible refine (HSP.out _ _ HB2.out).mono ?_); rintro e w8 ⟨rfl, hb⟩; have HB8 := Lib.hid hb; clear hb; dsimp only))
                all_goals
                  obtain ⟨f0, _⟩ := HLD.out _ HB8.out
                  have HO8 := Lib.hid (HO2.out.after HB8.out)
                  go_wp2_with (at_builtin; refine appendS rfl _ _ rfl HO8.out.own HO8.out.below.size rfl _ rfl (by simp only [ByteArray.size_append]; omega) ?_; intro v9 w9 h1 h2; have h3 : w9.ownsRow w4.heap.size 5 1 v9 nl.length (nl.map b8) := (by rw [← HNL.out, ← HSE.out]; exact h1); obtain ⟨xa9, xc9, hv9⟩ := own_slice h3; rw [HNB.out] at hv9; subst hv9; have HO9 := Lib.hid (own8_more HO8.out h3 h2); clear h1 h2 h3)
                  go_roundw
                  case rel => exact ⟨t + 1, _, _, _, rfl, by go_num, by omega, HPN, HO9⟩
                  case measure => simp [intOf]; omega
            · have hkp : 0 < ks.length := by omega
              obtain ⟨ga, ca, hva, _, _⟩ := HOI.out.own.form hkp
              subst hva
              obtain ⟨m, hm⟩ : ∃ m, ks.length = m := ⟨_, rfl⟩
              have HM := Lib.hid hm
              rw [hm] at hkp hkl HOI ⊢
              clear hm hks
              have q5 : (0 : Int) < (m : Int) := by omega
              by_cases hr : t < R
              · have hrx : t < rs.length := by rw [HRN.out]; exact hr
                obtain ⟨br, orr, hye, _, g0⟩ := HRX.out _ HB2.out t hrx
                have hrg := HRR.out _ (List.getElem_mem hrx)
                generalize rs[t] = cv2 at g0 hrg
                obtain ⟨hrg1, hrg2⟩ := hrg
                subst hye
                have q6 : (t : Int) < R := by omega
                clear hrx
                obtain ⟨p0, p1⟩ := pickI_in (c := cv2) (n := 3) (by omega)
                have HPK : Hid (∀ W, Calls Tryd.prog 13 #[.int .i64 cv2, .int .i64 3] W fun e w' => e = .returned (.int .i64 (pickI cv2 3)) ∧ W = w') := Lib.hid fun W => ipick_any cv2 3 W (by omega) (by omega) (by omega) (by omega)
                obtain ⟨P3, hP3⟩ : ∃ P3, pickI cv2 3 = P3 := ⟨_, rfl⟩
                rw [hP3] at HPK p0 p1
                clear hP3
                by_cases hpos : 0 < P3
                · obtain ⟨r0, r1⟩ := pickI_in (c := cv2) (n := (m : Int)) (by omega)
                  have HPL : Hid (∀ W, Calls Tryd.prog 13 #[.int .i64 cv2, .int .i64 (m : Int)] W fun e w' => e = .returned (.int .i64 (pickI cv2 m)) ∧ W = w') := Lib.hid fun W => ipick_any cv2 m W (by omega) (by omega) (by omega) (by omega)
                  obtain ⟨pp, hpp⟩ : ∃ pp : Nat, pickI cv2 m = pp := ⟨(pickI cv2 m).toNat, by omega⟩
                  rw [hpp] at HPL r0 r1
                  have hpl : pp < ks.length := by rw [HM.out]; omega
                  have f3 := HOI.out.cell pp hpl
                  obtain ⟨hKz, hK46⟩ := HKS.out _ (List.getElem_mem hpl)
                  generalize ks[pp] = K at f3 hKz hK46
                  have HHV := Lib.hid (halves_cut nm K hKz hK46)
                  obtain ⟨SEC, hSEC⟩ : ∃ SEC, nm.extract 0 K = SEC := ⟨_, rfl⟩
                  obtain ⟨NM, hNM⟩ : ∃ NM, nm.extract (K + 1) nm.size = NM := ⟨_, rfl⟩
                  rw [hSEC, hNM] at HHV
                  have hsz1 : SEC.size ≤ 32 := by rw [← hSEC]; simp; omega
                  have hsz2 : NM.size ≤ 32 := by rw [← hNM]; simp; omega
                  have hs1 : ∀ W : World, (Instr.slice 9 (.string nm) none (some (.int .i64 (K : Int))) none).run Tryd.prog W = .ok (.string SEC) W := fun W => by
                    rw [run_slice_string_to_if (h := Tryd.underlying9), if_pos (by omega), ← hSEC]
                    congr 3
                  have hs2 : ∀ W : World, (Instr.slice 9 (.string nm) (some (.int .i64 ((K : Int) + 1))) none none).run Tryd.prog W = .ok (.string NM) W := fun W => by
                    rw [run_slice_string_from_if (h := Tryd.underlying9), if_pos (by omega), ← hNM]
                    congr 3
                  have w9 : IntKind.i64.wrap ((K : Int) + 1) = (K : Int) + 1 := IntWalk.i64_in _ (by omega)
                  have j1 : ¬ 9223372036854775807 < 1 + SEC.size := by omega
                  have j2 : ¬ 9223372036854775807 < 1 + SEC.size + 2 := by omega
                  have j3 : ¬ 9223372036854775807 < 1 + SEC.size + 2 + NM.size := by omega
                  have j4 : ¬ 9223372036854775807 < 1 + SEC.size + 2 + NM.size + LT.size := by omega
                  clear hSEC hNM hpp hKz hK46 hpl HKS
                  go_wp2_with fail
                  refine (HPK.out _).mono ?_
                  rintro e w' ⟨rfl, rfl⟩
                  go_wp2_with fail
                  refine (HPL.out _).mono ?_
                  rintro e w' ⟨rfl, rfl⟩
                  clear HPK HPL HOI
                  go_wp2_with fail
                  have HSE := Lib.hid (HSB.out SEC NM LT HLB.out)
                  have HPN := Lib.hid (HPU.out (SEC.data.toList, NM.data.toList) (HHV.out))
                  obtain ⟨nl, hnl⟩ : ∃ nl, l ++ secEntry ⟨nm, tx, num⟩ (SEC.data.toList, NM.data.toList) = nl := ⟨_, rfl⟩
                  obtain ⟨nb, hnb⟩ : ∃ nb, nl.length = nb := ⟨_, rfl⟩
                  rw [hnl] at HPN
                  have HNL := Lib.hid hnl
                  have HNB := Lib.hid hnb
                  clear HSB HPU HLB hnl hnb
                  go_region_law (first | (go_simp; (with_reducible refine (HSP.out _ _ HB2.out).mono ?_); rintro e w8 ⟨rfl, hb⟩; have HB8 := Lib.hid hb; clear hb; dsimp only))
                  all_goals
                    obtain ⟨f0, _⟩ := HLD.out _ HB8.out
                    have HO8 := Lib.hid (HO2.out.after HB8.out)
                    go_wp2_with (at_builtin; refine appendS rfl _ _ rfl HO8.out.own HO8.out.below.size rfl _ rfl (by simp only [ByteArray.size_append]; omega) ?_; intro v9 w9 h1 h2; have h3 : w9.ownsRow w4.heap.size 5 1 v9 nl.length (nl.map b8) := (by rw [← HNL.out, ← HSE.out]; exact h1); obtain ⟨xa9, xc9, hv9⟩ := own_slice h3; rw [HNB.out] at hv9; subst hv9; have HO9 := Lib.hid (own8_more HO8.out h3 h2); clear h1 h2 h3)
                    go_roundw
                    case rel => exact ⟨t + 1, _, _, _, rfl, by go_num, by omega, HPN, HO9⟩
                    case measure => simp [intOf]; omega
                · clear HKS HOI
                  have j3 : ¬ 9223372036854775807 < 3 + nm.size := by omega
                  have j4 : ¬ 9223372036854775807 < 3 + nm.size + LT.size := by omega
                  go_wp2_with fail
                  refine (HPK.out _).mono ?_
                  rintro e w' ⟨rfl, rfl⟩
                  clear HPK
                  go_wp2_with fail
                  have HSE := Lib.hid (HSB.out (⟨#[]⟩ : ByteArray) nm LT HLB.out)
                  have HPN := Lib.hid (HPU.out ((⟨#[]⟩ : ByteArray).data.toList, nm.data.toList) (.inl ⟨rfl, rfl⟩))
                  obtain ⟨nl, hnl⟩ : ∃ nl, l ++ secEntry ⟨nm, tx, num⟩ ((⟨#[]⟩ : ByteArray).data.toList, nm.data.toList) = nl := ⟨_, rfl⟩
                  obtain ⟨nb, hnb⟩ : ∃ nb, nl.length = nb := ⟨_, rfl⟩
                  rw [hnl] at HPN
                  have HNL := Lib.hid hnl
                  have HNB := Lib.hid hnb
                  clear HSB HPU HLB hnl hnb
                  go_region_law (first | (go_simp; (with_reducible refine (HSP.out _ _ HB2.out).mono ?_); rintro e w8 ⟨rfl, hb⟩; have HB8 := Lib.hid hb; clear hb; dsimp only))
                  all_goals
                    obtain ⟨f0, _⟩ := HLD.out _ HB8.out
                    have HO8 := Lib.hid (HO2.out.after HB8.out)
                    go_wp2_with (at_builtin; refine appendS rfl _ _ rfl HO8.out.own HO8.out.below.size rfl _ rfl (by simp only [ByteArray.size_append]; omega) ?_; intro v9 w9 h1 h2; have h3 : w9.ownsRow w4.heap.size 5 1 v9 nl.length (nl.map b8) := (by rw [← HNL.out, ← HSE.out]; exact h1); obtain ⟨xa9, xc9, hv9⟩ := own_slice h3; rw [HNB.out] at hv9; subst hv9; have HO9 := Lib.hid (own8_more HO8.out h3 h2); clear h1 h2 h3)
                    go_roundw
                    case rel => exact ⟨t + 1, _, _, _, rfl, by go_num, by omega, HPN, HO9⟩
                    case measure => simp [intOf]; omega
              · have q6 : ¬ (t : Int) < R := by omega
                obtain ⟨p0, p1⟩ := pickI_in (c := (t : Int)) (n := 3) (by omega)
                have HPK : Hid (∀ W, Calls Tryd.prog 13 #[.int .i64 (t : Int), .int .i64 3] W fun e w' => e = .returned (.int .i64 (pickI (t : Int) 3)) ∧ W = w') := Lib.hid fun W => ipick_any (t : Int) 3 W (by omega) (by omega) (by omega) (by omega)
                obtain ⟨P3, hP3⟩ : ∃ P3, pickI (t : Int) 3 = P3 := ⟨_, rfl⟩
                rw [hP3] at HPK p0 p1
                clear hP3
                by_cases hpos : 0 < P3
                · obtain ⟨r0, r1⟩ := pickI_in (c := (t : Int)) (n := (m : Int)) (by omega)
                  have HPL : Hid (∀ W, Calls Tryd.prog 13 #[.int .i64 (t : Int), .int .i64 (m : Int)] W fun e w' => e = .returned (.int .i64 (pickI (t : Int) m)) ∧ W = w') := Lib.hid fun W => ipick_any (t : Int) m W (by omega) (by omega) (by omega) (by omega)
                  obtain ⟨pp, hpp⟩ : ∃ pp : Nat, pickI (t : Int) m = pp := ⟨(pickI (t : Int) m).toNat, by omega⟩
                  rw [hpp] at HPL r0 r1
                  have hpl : pp < ks.length := by rw [HM.out]; omega
                  have f3 := HOI.out.cell pp hpl
                  obtain ⟨hKz, hK46⟩ := HKS.out _ (List.getElem_mem hpl)
                  generalize ks[pp] = K at f3 hKz hK46
                  have HHV := Lib.hid (halves_cut nm K hKz hK46)
                  obtain ⟨SEC, hSEC⟩ : ∃ SEC, nm.extract 0 K = SEC := ⟨_, rfl⟩
                  obtain ⟨NM, hNM⟩ : ∃ NM, nm.extract (K + 1) nm.size = NM := ⟨_, rfl⟩
                  rw [hSEC, hNM] at HHV
                  have hsz1 : SEC.size ≤ 32 := by rw [← hSEC]; simp; omega
                  have hsz2 : NM.size ≤ 32 := by rw [← hNM]; simp; omega
                  have hs1 : ∀ W : World, (Instr.slice 9 (.string nm) none (some (.int .i64 (K : Int))) none).run Tryd.prog W = .ok (.string SEC) W := fun W => by
                    rw [run_slice_string_to_if (h := Tryd.underlying9), if_pos (by omega), ← hSEC]
                    congr 3
                  have hs2 : ∀ W : World, (Instr.slice 9 (.string nm) (some (.int .i64 ((K : Int) + 1))) none none).run Tryd.prog W = .ok (.string NM) W := fun W => by
                    rw [run_slice_string_from_if (h := Tryd.underlying9), if_pos (by omega), ← hNM]
                    congr 3
                  have w9 : IntKind.i64.wrap ((K : Int) + 1) = (K : Int) + 1 := IntWalk.i64_in _ (by omega)
                  have j1 : ¬ 9223372036854775807 < 1 + SEC.size := by omega
                  have j2 : ¬ 9223372036854775807 < 1 + SEC.size + 2 := by omega
                  have j3 : ¬ 9223372036854775807 < 1 + SEC.size + 2 + NM.size := by omega
                  have j4 : ¬ 9223372036854775807 < 1 + SEC.size + 2 + NM.size + LT.size := by omega
                  clear hSEC hNM hpp hKz hK46 hpl HKS
                  go_wp2_with fail
                  refine (HPK.out _).mono ?_
                  rintro e w' ⟨rfl, rfl⟩
                  go_wp2_with fail
                  refine (HPL.out _).mono ?_
                  rintro e w' ⟨rfl, rfl⟩
                  clear HPK HPL HOI
                  go_wp2_with fail
                  have HSE := Lib.hid (HSB.out SEC NM LT HLB.out)
                  have HPN := Lib.hid (HPU.out (SEC.data.toList, NM.data.toList) (HHV.out))
                  obtain ⟨nl, hnl⟩ : ∃ nl, l ++ secEntry ⟨nm, tx, num⟩ (SEC.data.toList, NM.data.toList) = nl := ⟨_, rfl⟩
                  obtain ⟨nb, hnb⟩ : ∃ nb, nl.length = nb := ⟨_, rfl⟩
                  rw [hnl] at HPN
                  have HNL := Lib.hid hnl
                  have HNB := Lib.hid hnb
                  clear HSB HPU HLB hnl hnb
                  go_region_law (first | (go_simp; (with_reducible refine (HSP.out _ _ HB2.out).mono ?_); rintro e w8 ⟨rfl, hb⟩; have HB8 := Lib.hid hb; clear hb; dsimp only))
                  all_goals
                    obtain ⟨f0, _⟩ := HLD.out _ HB8.out
                    have HO8 := Lib.hid (HO2.out.after HB8.out)
                    go_wp2_with (at_builtin; refine appendS rfl _ _ rfl HO8.out.own HO8.out.below.size rfl _ rfl (by simp only [ByteArray.size_append]; omega) ?_; intro v9 w9 h1 h2; have h3 : w9.ownsRow w4.heap.size 5 1 v9 nl.length (nl.map b8) := (by rw [← HNL.out, ← HSE.out]; exact h1); obtain ⟨xa9, xc9, hv9⟩ := own_slice h3; rw [HNB.out] at hv9; subst hv9; have HO9 := Lib.hid (own8_more HO8.out h3 h2); clear h1 h2 h3)
                    go_roundw
                    case rel => exact ⟨t + 1, _, _, _, rfl, by go_num, by omega, HPN, HO9⟩
                    case measure => simp [intOf]; omega
                · clear HKS HOI
                  have j3 : ¬ 9223372036854775807 < 3 + nm.size := by omega
                  have j4 : ¬ 9223372036854775807 < 3 + nm.size + LT.size := by omega
                  go_wp2_with fail
                  refine (HPK.out _).mono ?_
                  rintro e w' ⟨rfl, rfl⟩
                  clear HPK
                  go_wp2_with fail
                  have HSE := Lib.hid (HSB.out (⟨#[]⟩ : ByteArray) nm LT HLB.out)
                  have HPN := Lib.hid (HPU.out ((⟨#[]⟩ : ByteArray).data.toList, nm.data.toList) (.inl ⟨rfl, rfl⟩))
                  obtain ⟨nl, hnl⟩ : ∃ nl, l ++ secEntry ⟨nm, tx, num⟩ ((⟨#[]⟩ : ByteArray).data.toList, nm.data.toList) = nl := ⟨_, rfl⟩
                  obtain ⟨nb, hnb⟩ : ∃ nb, nl.length = nb := ⟨_, rfl⟩
                  rw [hnl] at HPN
                  have HNL := Lib.hid hnl
                  have HNB := Lib.hid hnb
                  clear HSB HPU HLB hnl hnb
                  go_region_law (first | (go_simp; (with_reducible refine (HSP.out _ _ HB2.out).mono ?_); rintro e w8 ⟨rfl, hb⟩; have HB8 := Lib.hid hb; clear hb; dsimp only))
                  all_goals
                    obtain ⟨f0, _⟩ := HLD.out _ HB8.out
                    have HO8 := Lib.hid (HO2.out.after HB8.out)
                    go_wp2_with (at_builtin; refine appendS rfl _ _ rfl HO8.out.own HO8.out.below.size rfl _ rfl (by simp only [ByteArray.size_append]; omega) ?_; intro v9 w9 h1 h2; have h3 : w9.ownsRow w4.heap.size 5 1 v9 nl.length (nl.map b8) := (by rw [← HNL.out, ← HSE.out]; exact h1); obtain ⟨xa9, xc9, hv9⟩ := own_slice h3; rw [HNB.out] at hv9; subst hv9; have HO9 := Lib.hid (own8_more HO8.out h3 h2); clear h1 h2 h3)
                    go_roundw
                    case rel => exact ⟨t + 1, _, _, _, rfl, by go_num, by omega, HPN, HO9⟩
                    case measure => simp [intOf]; omega
      · have hte : t = N := by omega
        subst hte
        have q2 : ¬ (t : Int) < t := by omega
        have HLQ := HQ.out.2.2.1
        obtain ⟨PB, hPB⟩ : ∃ PB, mkB l = PB := ⟨_, rfl⟩
        have hPz : PB.size = l.length := by rw [← hPB, len_mkB]
        obtain ⟨Lz, hLz⟩ : ∃ Lz, l.length = Lz := ⟨_, rfl⟩
        rw [hLz] at hPz HLQ
        have HOO := HO.out.string 9 32 Tryd.underlying9 Tryd.underlying32 Tryd.underlying5
        rw [show str l = .string PB from by rw [← hPB]; rfl] at HOO
        rw [hLz] at HOO
        have hst := HOO
        have HQA := Lib.hid HQ.out.1
        have HQB := Lib.hid HQ.out.2.1
        have HQC := Lib.hid HQ.out.2.2.2
        rw [hLz]
        by_cases h8 : 8000 < Lz
        · have hq : parseB PB.data.toList = ([], 61, 0) := by
            unfold parseB
            rw [if_pos (by rw [← hPB, mkB_data, hLz]; exact h8)]
          have HPP := Lib.hid (parse_to PB [] 61 0 hq wo (HT.out _ HBW.out).1 (HT.out _ HBW.out).2 (by omega))
          have q5 : (8000 : Int) < (Lz : Int) := by omega
          clear hq hPz HOO h8
          go_wp2_with fail
          refine HPP.out.mono ?_
          rintro e w6 ⟨xp, cp, rfl, hb, hlp⟩
          have HB6 := Lib.hid (HBW.out.trans (hb.mono HBW.out.size))
          clear hb hlp
          go_wp2
          go_ret
          exact ⟨rfl, HB6.out⟩
        · have hq : parseB PB.data.toList = (numS 1 ls, 0, 0) := by
            obtain ⟨b, hpb⟩ : ∃ b, printF ls = some b := ⟨_, HPB.out⟩
            rw [← hPB, mkB_data, HQA.out, List.take_of_length_le (by rw [HN.out]; omega)]
            refine secs_read hpb (by rw [HQB.out, HN.out]) HQC.out ?_
            rw [← List.take_of_length_le (l := ls) (i := t) (by rw [HN.out]; omega), ← HQA.out, hLz]
            omega
          have hpp := parse_to PB (numS 1 ls) 0 0 hq wo (HT.out _ HBW.out).1 (HT.out _ HBW.out).2 (by omega)
          rw [numS_len, HN.out] at hpp
          have HPP := Lib.hid hpp
          have q5 : ¬ (8000 : Int) < (Lz : Int) := by omega
          clear hq hPz HOO h8 hpp
          go_wp2_with fail
          refine HPP.out.mono ?_
          rintro e w6 ⟨xp, cp, rfl, hb, hlp⟩
          have HB6 := Lib.hid (HBW.out.trans (hb.mono HBW.out.size))
          have HL6 := Lib.hid hlp
          clear hb hlp HPP
          go_wp2
          go_loopw [21] (fun i wq => ∃ k : Nat, i = .int .i64 k ∧ k ≤ t ∧ Hid (Below w6.heap.size w6 wq)) (fun i _ => t - (intOf i).toNat)
          case atStart => exact ⟨0, rfl, by omega, Lib.hid (Below.refl _ _)⟩
          case round =>
            obtain ⟨k, rfl, hk, HK⟩ := hrel
            have HBK := Lib.hid (HB6.out.trans (HK.out.mono HB6.out.size))
            by_cases hkt : k < t
            · have hkx : k < ls.length := by rw [HN.out]; exact hkt
              have hkn : k < (numS 1 ls).length := by rw [numS_len]; exact hkx
              obtain ⟨a', oa, ea, hal, a0, a1, a2⟩ := (HL6.out.below HK.out) k hkn
              obtain ⟨b', ob, eb, hbl, b0, b1, b2⟩ := (HLX.out _ HBK.out) k hkx
              rw [numS_at ls 1 k hkx hkn] at a0 a1 a2
              subst ea eb
              generalize ls[k] = z at a0 a1 b0 b1 b2
              obtain ⟨zn, zt, zk⟩ := z
              simp only at a0 a1 a2 b0 b1
              have q6 : (0 : Int) ≤ k := by omega
              have q7 : (k : Int) < t := by omega
              have w7 : IntKind.i64.wrap (2 * (k : Int)) = 2 * (k : Int) := IntWalk.i64_in _ (by omega)
              have w8 : IntKind.i64.wrap (2 * (k : Int) + 2) = 2 * (k : Int) + 2 := IntWalk.i64_in _ (by omega)
              rw [show (((1 + 2 * k + 1 : Nat) : Int)) = 2 * (k : Int) + 2 by omega] at a2
              have HD := Lib.hid (HK.out.trans ((below_drewN wr 1).mono HK.out.size))
              clear hkx hkn b2
              go_wp2
              go_region
              all_goals
                go_wp2
                go_roundw
                case rel => exact ⟨k + 1, by go_num, by omega, HD⟩
                case measure => simp [intOf]; omega
            · have q7 : ¬ (k : Int) < t := by omega
              go_wp2
              go_ret
              exact ⟨rfl, HBK.out⟩
  · subst hE
    clear hA hS1 hm hz hAi hwA hwA2 hF hlen hp1 hL hR hrr hrm hT hI hN hRR
    go_enter Tryd.func7, Tryd.ntmps7
    go_wp2_with fail
    refine (HWL.out _ (Below.refl _ _)).mono ?_
    rintro e w1 ⟨rfl, hb⟩
    have HB1 := Lib.hid hb
    clear hb
    go_wp2_with fail
    refine (HWL.out _ HB1.out).mono ?_
    rintro e w2 ⟨rfl, hb⟩
    have HB2 := Lib.hid (HB1.out.trans (hb.mono HB1.out.size))
    clear hb
    go_wp2_with fail
    refine (HA1.out _).mono ?_
    rintro e w' ⟨rfl, rfl⟩
    go_wp2_with fail
    refine (HAW.out _ HB2.out).mono ?_
    rintro e w3 ⟨rfl, hb⟩
    have HB3 := Lib.hid (HB2.out.trans (hb.mono HB2.out.size))
    clear hb
    go_wp2_with fail
    refine (HP1.out _ _ _ (HLX.out _ HB3.out) (HT.out _ HB3.out).1).mono ?_
    rintro e w4 ⟨rfl, hb⟩
    have HB4 := Lib.hid (HB3.out.trans (hb.mono HB3.out.size))
    clear hb HB1 HB2 HB3 HWL HA1 HAW HP1
    go_wp2
    go_ret
    exact ⟨rfl, HB4.out⟩
end Go.Proofs.YtbpbiakdigjcnaaDoor
