/-
  StpScripts0.
-/
import Derived.Test.YticcdighfojjjaaGreatDoorQStpApplies0
import Derived.Test.YticcdighfojjjaaGreatDoorQStpStands0
namespace Go.Proofs.YticcdighfojjjaaGreatDoor
open Go.ChangeShapes Go.WideShapes Go.ChangeAt Go.RowKit

set_option maxHeartbeats 3200000 in
set_option maxRecDepth 100000 in
/-- No lists came out. -/
theorem powned_nil (w : World) : Calls Tryz.prog 26 #[.slice none 0 0, .slice none 0 0] w fun e w' => e = .returned (.bool true) ∧ Below w.heap.size w w' := by
  go_enter Tryz.func26, Tryz.ntmps26
  go_wp2
  go_loopw [5] (fun i wr => i = .int .i64 0 ∧ Hid (Below w.heap.size w wr)) (fun _ _ => 0)
  case atStart => exact ⟨rfl, Lib.hid (Below.refl _ _)⟩
  case round =>
    obtain ⟨rfl, HW⟩ := hrel
    go_wp2
    go_loopw [7] (fun i wr => i = .int .i64 0 ∧ Hid (Below w.heap.size w wr)) (fun _ _ => 0)
    case atStart => exact ⟨rfl, HW⟩
    case round =>
      clear HW
      obtain ⟨rfl, HW⟩ := hrel
      go_wp2
      go_loopw [9, 10] (fun a i wr => a = .slice none 0 0 ∧ i = .int .i64 0 ∧ Hid (Below w.heap.size w wr)) (fun _ _ _ => 0)
      case atStart => exact ⟨rfl, rfl, HW⟩
      case round =>
        clear HW
        obtain ⟨rfl, rfl, HW⟩ := hrel
        go_wp2
        go_loopw [13] (fun i wr => i = .int .i64 0 ∧ Hid (Below w.heap.size w wr)) (fun _ _ => 0)
        case atStart => exact ⟨rfl, HW⟩
        case round =>
          clear HW
          obtain ⟨rfl, HW⟩ := hrel
          go_wp2
          go_ret
          exact ⟨rfl, HW.out⟩
/-- Where the document's list lies: with the list that it was asked of, or anew. -/
theorem PLP.wants2 {w0 wr w9 w10 : World} {F : Nat → List PairV} {lv wv : Value} {k : Nat} {X Y : Nat → Option Addr} {C D : Nat → Nat} {col : Nat → Nat} {x y : Option Addr} {ps qs : List PairV} (h : PLP w0 wr F lv wv k X C Y D col) (hx : PrsX w9 x ps lv wv) (hb : wr.heap.size ≤ w9.heap.size) (h9 : Below w9.heap.size w9 w10) (hd : PrsAt w10 y qs)
    (hor : (y = x ∧ qs = ps) ∨ ∀ b off, y = some ⟨b, off, none⟩ → w9.heap.size ≤ b) : PrsX w10 y qs lv wv := by
  rcases hor with ⟨rfl, rfl⟩ | hf
  · exact hx.below h9
  · refine PrsX.of_prs hd fun b off e => ⟨fun q => ?_, fun q => ?_⟩
    · have h1 := hf b off e
      have h2 := row_size h.lrow b q
      omega
    · have h1 := hf b off e
      have h2 := row_size h.wrow b q
      omega
/-- All that a round of the script finds. -/
structure ScAt (w7 w : World) (F : Nat → List PairV) (lv wv : Value) (k : Nat) (cur : List PairV) (ax bx : Option Addr) (X : Nat → Option Addr) (C : Nat → Nat) (Y : Nat → Option Addr) (D : Nat → Nat) (col : Nat → Nat) : Prop where
  pl : PLP w7 w F lv wv k X C Y D col
  len : ∀ j, j < k → (F j).length ≤ 500
  none_ : k = 0 → lv = .slice none 0 0 ∧ wv = .slice none 0 0
  ok : PrsOk cur
  a : PrsX w ax cur lv wv
  b : PrsX w bx cur lv wv
section
variable {w7 w w' w11 w12 w13 : World} {F : Nat → List PairV} {lv wv lv' wv' : Value} {k : Nat} {cur qs : List PairV} {ax bx x y : Option Addr} {X Y : Nat → Option Addr} {C D : Nat → Nat} {col : Nat → Nat}
theorem ScAt.after (h : ScAt w7 w F lv wv k cur ax bx X C Y D col) (hb : Below w.heap.size w w') : ScAt w7 w' F lv wv k cur ax bx X C Y D col :=
  ⟨h.pl.after hb, h.len, h.none_, h.ok, h.a.below hb, h.b.below hb⟩
theorem lvP_other (X : Nat → Option Addr) (C : Nat → Nat) (F : Nat → List PairV) (k : Nat) (qs : List PairV) : (List.range k).map (lvP X (upd F k qs) C) = (List.range k).map (lvP X F C) :=
  List.map_congr_left fun j hj => by
    have : j ≠ k := by have := List.mem_range.1 hj; omega
    unfold lvP
    rw [upd_ne _ _ this]
theorem ScAt.push (h : ScAt w7 w F lv wv k cur ax bx X C Y D col) (hb : Below w.heap.size w w11) {m c d : Nat} (hm : qs.length = m) (h5 : m ≤ 500) (hok : PrsOk qs) (hx : w11.ownsRow w.heap.size 51 3 (.slice x m c) qs.length (pFlat qs)) (hxp : PrsAt w11 x qs) (hy : PrsX w11 y qs lv wv) {o1 o2 : Obj}
    (hl8 : w12.ownsRow w7.heap.size 37 1 lv' (k + 1) ((List.range k).map (lvP X F C) ++ [.slice x m c])) (hg8 : (w11.alloc o1).grownBy w12 lv.ownBlock) (hi8 : ∀ g, lv'.ownBlock = some g → lv.ownBlock = some g ∨ w11.heap.size ≤ g)
    (hl9 : w13.ownsRow w7.heap.size 37 1 wv' (k + 1) ((List.range k).map (lvP Y F D) ++ [.slice y m d])) (hg9 : (w12.alloc o2).grownBy w13 wv.ownBlock) (hi9 : ∀ g, wv'.ownBlock = some g → wv.ownBlock = some g ∨ w12.heap.size ≤ g) :
    ∃ F' X' C' Y' D' col', ScAt w7 w13 F' lv' wv' (k + 1) qs x y X' C' Y' D' col' := by
  subst hm
  have hc := h.pl.cong (F' := upd F k qs) (fun j hj => upd_ne F qs (by omega))
  have e : upd F k qs k = qs := upd_same _ _ _
  have hp := hc.push hb (x := x) (y := y) (c := c) (d := d) (by rw [e]; exact hx) (by rw [e]; exact hy) (by rw [e, lvP_other]; exact hl8) hg8 hi8 (by rw [e, lvP_other]; exact hl9) hg9 hi9
  have hxX : PrsX w11 x qs lv wv := PrsX.of_prs hxp fun b off eb => by
    have h1 := (hx.lt b (by rw [eb]; rfl)).1
    refine ⟨fun q => ?_, fun q => ?_⟩
    · have h2 := row_size h.pl.lrow b q
      omega
    · have h2 := row_size h.pl.wrow b q
      omega
  refine ⟨_, _, _, _, _, _, hp, fun j hj => ?_, fun h => by omega, hok, hxX.grown (grown_alloc hg8) (grown_alloc hg9) hi8 hi9, hy.grown (grown_alloc hg8) (grown_alloc hg9) hi8 hi9⟩
  by_cases hjk : j = k
  · subst hjk
    rw [e]; exact h5
  · rw [upd_ne _ _ hjk]
    exact h.len j (by omega)
end
theorem prs_of_pairsS {ps : List PairV} (h : pairsB ps = true) : PrsOk ps := fun p hp => by
  have := okP_iff.1 ((pairsB_iff.1 h).2.1 p hp)
  obtain ⟨h1, h2, h3⟩ := this
  unfold wordA wordB at h1 h2
  simp only [Bool.and_eq_true, decide_eq_true_eq] at h1 h2
  have l1 := data_len p.table
  have l2 := data_len p.key
  exact ⟨by omega, by omega, by omega⟩
theorem apply_prsS {ps : List PairV} {s : StepV} : PrsOk (applyP ps s).1 := by
  by_cases h : (applyP ps s).2 = 0
  · exact prs_of_pairsS (apply_out h)
  · rw [apply_err h]; intro p hp; cases hp
def ApP (r : List PairV × Int) (W : World) (e : Ending) (w' : World) : Prop := ∃ y m d, e = .returned (.tuple #[.slice y m d, .int .i64 r.2]) ∧ OwnP W w' (.slice y m d) r.1 ∧ PrsAt w' y r.1 ∧ r.1.length = m ∧ m ≤ d
theorem papply_p (ps : List PairV) (x : Option Addr) (n c : Nat) (s : StepV) (w : World) (h : PrsAt w x ps) (hn : ps.length = n) (hc : n ≤ c) (hl : n ≤ 2147483647) (hok : PrsOk ps) (hs : StepOk s) (hT : StdS w) :
    Calls Tryz.prog 23 #[.slice x n c, sV s] w (ApP (applyP ps s) w) := by
  refine (papply_any ps x n c s w h hn hc hl hok hs hT).mono ?_
  rintro e w' ⟨v, rfl, ho⟩
  obtain ⟨y, d, rfl, h1, h2⟩ := ho.some_
  exact ⟨y, _, d, rfl, ho, h1, rfl, h2⟩
def DoP (x : Option Addr) (ps : List PairV) (r : List PairV × Int) (W : World) (e : Ending) (w' : World) : Prop := ∃ y m d, e = .returned (.tuple #[.slice y m d, .int .i64 r.2]) ∧ PrsAt w' y r.1 ∧ r.1.length = m ∧ m ≤ d ∧ Below W.heap.size W w' ∧ ((y = x ∧ r.1 = ps) ∨ ∀ b off, y = some ⟨b, off, none⟩ → W.heap.size ≤ b)
theorem sapply_p (ps : List PairV) (x : Option Addr) (n c : Nat) (s : StepV) (w : World) (h : PrsAt w x ps) (hn : ps.length = n) (hc : n ≤ c) (hl : n ≤ 2147483647) (hok : PrsOk ps) (hs : StepOk s) :
    Calls Tryz.prog 25 #[.slice x n c, sV s] w (DoP x ps (applyP ps s) w) := by
  refine (sapply_any ps x n c s w h hn hc hl hok hs).mono ?_
  rintro e w' ⟨y, d, rfl, h1, h2, h3, h4⟩
  exact ⟨y, _, d, rfl, h1, rfl, h2, h3, h4⟩
set_option maxHeartbeats 6400000 in
set_option maxRecDepth 100000 in
theorem stepScripts_any (ps : List PairV) (x : Option Addr) (n c : Nat) (ss : List StepV) (sx : Option Addr) (sn sc : Nat) (w : World) (h : PrsAt w x ps) (hn : ps.length = n) (hc : n ≤ c) (hl : n ≤ maxLen) (hz : ∀ p ∈ ps, p.table.size ≤ maxLen ∧ p.key.size ≤ maxLen ∧ p.value.size ≤ maxLen)
    (hs : StpsAt w sx ss) (hsn : ss.length = sn) (hsl : sn ≤ maxLen) (hsz : ∀ s ∈ ss, StepOk s) (hT : StdN w) :
    Calls Tryz.prog 7 #[.slice x n c, .slice sx sn sc] w fun e w' => e = .returned (.bool true) ∧ Below w.heap.size w w' := by
  have HX := Lib.hid h
  have HN := Lib.hid hn
  have HSX := Lib.hid hs
  have HSN := Lib.hid hsn
  have HSZ := Lib.hid hsz
  have HT := Lib.hid (fun W hb => hT.below (w' := W) hb)
  have HPW := Lib.hid (pweigh_any ps x n c w h hn hl hz)
  have HSW : Hid (∀ W, Below w.heap.size w W → Calls Tryz.prog 17 #[.slice sx sn sc] W fun e w' => ∃ N : Nat, e = .returned (.int .i64 (N : Int)) ∧ N ≤ 4294967294 ∧ (N ≤ 2147483647 → sn ≤ 2147483647 ∧ ∀ s ∈ ss, StepSm s) ∧ Below W.heap.size W w') := Lib.hid fun W hb => ssweigh_any ss sx sn sc W (hs.below hb) hsn hsl hsz
  have HAW : Hid (∀ W, Below w.heap.size w W → Calls Tryz.prog 10 #[] W fun e w' => e = .returned (.bool true) ∧ Below W.heap.size W w') := Lib.hid fun W hb => lawake_any W (hT.below hb).std
  have HST : Hid (∀ W, Below w.heap.size w W → Calls Tryz.prog 3 #[] W fun e w' => e = .returned (.bool true) ∧ Below W.heap.size W w') := Lib.hid fun W hb => stepStands_any W (hT.below hb)
  clear h hn hl hz hs hsn hsl hsz hT
  go_enter Tryz.func7, Tryz.ntmps7
  go_wp2_with fail
  refine HPW.out.mono ?_
  rintro e w2 ⟨N1, rfl, hN1, hok, hb⟩
  have HB2 := Lib.hid hb
  have HOK := Lib.hid hok
  clear hb hok HPW
  go_wp2_with fail
  refine (HSW.out _ HB2.out).mono ?_
  rintro e w3 ⟨N2, rfl, hN2, hok2, hb⟩
  have HB3 := Lib.hid (HB2.out.trans (hb.mono HB2.out.size))
  have HOK2 := Lib.hid hok2
  clear hb hok2 HSW HB2
  go_wp2_with fail
  refine (addU_any N1 N2 _ (by omega) (by omega)).mono ?_
  rintro e w' ⟨rfl, rfl⟩
  by_cases hbig : 2147483647 < addU N1 N2
  · have g0 : (2147483647 : Int) < (addU N1 N2 : Nat) := by omega
    go_wp2
    go_ret
    exact ⟨rfl, HB3.out⟩
  have g0 : ¬ (2147483647 : Int) < (addU N1 N2 : Nat) := by omega
  obtain ⟨ha1, ha2⟩ := addU_in (by omega : addU N1 N2 ≤ 2147483647)
  obtain ⟨hn31, hok⟩ := HOK.out ha1
  have hsn31 := (HOK2.out ha2).1
  have HPO := Lib.hid hok
  generalize addU N1 N2 = NN at g0 hbig ⊢
  clear HOK HOK2 hok ha1 ha2 hbig
  go_wp2_with fail
  refine (HAW.out _ HB3.out).mono ?_
  rintro e w4 ⟨rfl, hb⟩
  have HB4 := Lib.hid (HB3.out.trans (hb.mono HB3.out.size))
  clear hb HB3 HAW g0
  have H0 : Hid (∃ F X C Y D col, ScAt w4 w4 F (.slice none 0 0) (.slice none 0 0) 0 ps x x X C Y D col) := Lib.hid ⟨fun _ => [], fun _ => none, fun _ => 0, fun _ => none, fun _ => 0, fun _ => 0, PLP.start w4 _ _ _ _ _ _, fun j hj => by omega, fun _ => ⟨rfl, rfl⟩, HPO.out, PrsX.of_prs (HX.out.below HB4.out) fun b off e => ⟨by simp [Value.ownBlock], by simp [Value.ownBlock]⟩, PrsX.of_prs (HX.out.below HB4.out) fun b off e => ⟨by simp [Value.ownBlock], by simp [Value.ownBlock]⟩⟩
  go_wp2
  go_loopw [6, 7, 8, 9, 10] (fun au bu lu wu i wr => ∃ (t k an ac bc : Nat) (ax bx : Option Addr) (lv wv : Value) (cur : List PairV), au = .slice ax an ac ∧ bu = .slice bx an bc ∧ lv = lu ∧ wv = wu ∧ i = .int .i64 t ∧ t ≤ sn ∧ k ≤ t ∧ an ≤ ac ∧ an ≤ bc ∧ an ≤ 2147483647 ∧ Hid (cur.length = an) ∧ Hid (∃ F X C Y D col, ScAt w4 wr F lv wv k cur ax bx X C Y D col)) (fun _ _ _ _ i _ => sn - (intOf i).toNat)
  case atStart => exact ⟨0, 0, n, c, c, x, x, _, _, ps, rfl, rfl, rfl, rfl, rfl, by omega, by omega, hc, hc, hn31, HN, H0⟩
  case round =>
    clear H0 HN HX HPO
    obtain ⟨t, k, an, ac, bc, ax, bx, lv, wv, cur, rfl, rfl, rfl, rfl, rfl, ht, hkt, hac, hbc, han, HCN, HKK⟩ := hrel
    obtain ⟨F, X, C, Y, D, col, hsa⟩ := HKK.out
    have HSA := Lib.hid hsa
    have HBR := Lib.hid hsa.pl.below
    have HB8 : Hid (Below w.heap.size w wr) := Lib.hid (HB4.out.trans (hsa.pl.below.mono HB4.out.size))
    clear hsa HKK
    by_cases hlt : t < sn
    · have htx : t < ss.length := by rw [HSN.out]; exact hlt
      obtain ⟨b, off, hx, _, c0, c1, c2, c3, c4⟩ := (HSX.out.below HB8.out) t htx
      have hz := HSZ.out _ (List.getElem_mem htx)
      have q1 : (0 : Int) ≤ t := by omega
      have q2 : (t : Int) < sn := by omega
      generalize ss[t] = q at c0 c1 c2 c3 c4 hz
      obtain ⟨kd, tb, ky, tt, tx⟩ := q
      dsimp only at c0 c1 c2 c3 c4
      have HP : Hid (Calls Tryz.prog 23 #[.slice ax an ac, .agg #[.int .i64 kd, .string tb, .string ky, .string tt, .string tx]] wr (ApP (applyP cur ⟨kd, tb, ky, tt, tx⟩) wr)) := Lib.hid (papply_p cur ax an ac ⟨kd, tb, ky, tt, tx⟩ wr HSA.out.a.prs HCN.out hac han HSA.out.ok hz (HT.out _ HB8.out).std)
      have HR : Hid (∀ W, Below wr.heap.size wr W → Calls Tryz.prog 25 #[.slice bx an bc, .agg #[.int .i64 kd, .string tb, .string ky, .string tt, .string tx]] W (DoP bx cur (applyP cur ⟨kd, tb, ky, tt, tx⟩) W)) := Lib.hid fun W hb => sapply_p cur bx an bc ⟨kd, tb, ky, tt, tx⟩ W (HSA.out.b.prs.below hb) HCN.out hbc han HSA.out.ok hz
      have HNX : Hid (PrsOk (applyP cur ⟨kd, tb, ky, tt, tx⟩).1 ∧ (applyP cur ⟨kd, tb, ky, tt, tx⟩).1.length ≤ 500) := Lib.hid ⟨apply_prsS, apply_lenA⟩
      generalize applyP cur ⟨kd, tb, ky, tt, tx⟩ = R at HP HR HNX
      obtain ⟨QL, QE⟩ := R
      dsimp only at HNX
      have HCC : Hid (∀ W, Below wr.heap.size wr W → W.cell? ⟨b, off + t * 5, none⟩ = some (.int .i64 kd) ∧ W.cell? ⟨b, off + t * 5 + 1, none⟩ = some (.string tb) ∧ W.cell? ⟨b, off + t * 5 + 2, none⟩ = some (.string ky) ∧ W.cell? ⟨b, off + t * 5 + 3, none⟩ = some (.string tt) ∧ W.cell? ⟨b, off + t * 5 + 4, none⟩ = some (.string tx)) := Lib.hid fun W hb => ⟨(hb.cell (lt_of_cell c0)).trans c0, (hb.cell (lt_of_cell c1)).trans c1, (hb.cell (lt_of_cell c2)).trans c2, (hb.cell (lt_of_cell c3)).trans c3, (hb.cell (lt_of_cell c4)).trans c4⟩
      clear htx hz
      subst hx
      go_wp2_with fail
      refine HP.out.mono ?_
      rintro e w5 ⟨y5, m5, d5, rfl, ho5, hp5, hm5, hd5⟩
      have HO5 := Lib.hid ho5
      have HP5 := Lib.hid hp5
      have HM5 : Hid (QL.length = m5) := Lib.hid hm5
      clear ho5 hp5 hm5 c0 c1 c2 c3 c4 HP
      obtain ⟨c0, c1, c2, c3, c4⟩ := HCC.out _ HO5.out.below
      go_wp2_with fail
      refine (HR.out _ HO5.out.below).mono ?_
      rintro e w6 ⟨y6, m6, d6, rfl, hp6, hm6, hd6, hb6, hor6⟩
      have hmm : m6 = m5 := by
        have h1 : QL.length = m6 := hm6
        have h2 := HM5.out
        omega
      have HW6 : Hid (PrsX w6 y6 QL lv wv) := Lib.hid (HSA.out.pl.wants2 (HSA.out.b.below HO5.out.below) HO5.out.below.size hb6 hp6 hor6)
      have HB6 := Lib.hid hb6
      clear hp6 hm6 hb6 hor6 HR HCC c0 c1 c2 c3 c4
      subst hmm
      have hm5' : m6 ≤ 500 := by rw [← HM5.out]; exact HNX.out.2
      have HLS := Lib.hid (lsame_any QL QL y5 y6 m6 m6 d5 d6 w6 (HP5.out.below HB6.out) HW6.out.prs HM5.out HM5.out (by omega))
      rw [sameB_self] at HLS
      go_wp2_with fail
      refine HLS.out.mono ?_
      rintro e w8 ⟨rfl, hb⟩
      have HB9 : Hid (Below w6.heap.size w6 w8) := Lib.hid hb
      have HB58 : Hid (Below w5.heap.size w5 w8) := Lib.hid (HB6.out.trans (hb.mono HB6.out.size))
      have HB12 : Hid (Below wr.heap.size wr w8) := Lib.hid (HO5.out.below.trans (HB58.out.mono HO5.out.below.size))
      have HO8 : Hid (w8.ownsRow wr.heap.size 51 3 (.slice y5 m6 d5) QL.length (pFlat QL)) := Lib.hid (row_below HO5.out.own HB58.out)
      have HP8 := Lib.hid (HP5.out.below HB58.out)
      have HW8 := Lib.hid (HW6.out.below HB9.out)
      have HLR := Lib.hid (row_below HSA.out.pl.lrow HB12.out)
      have HZ8 : Hid (w4.heap.size ≤ w8.heap.size) := Lib.hid (Nat.le_trans HBR.out.size HB12.out.size)
      have g1 : (QE != QE) = false := by simp
      clear hb HLS HW6 HB6 HB9 HB58 HO5 HP5
      by_cases h0 : QE = 0
      · subst h0
        go_wp2_with (at_builtin; first
          | (refine appendLP4 rfl _ _ rfl HLR.out HZ8.out (by omega) rfl rfl rfl ?_; intro g8 cap8 w12 hown8 hgrow8 hlies8; have H8 := Lib.hid (And.intro hown8 (And.intro hgrow8 hlies8)); have HWR := Lib.hid (HSA.out.pl.wrow8 HB12.out hgrow8); have HZ12 : Hid (w4.heap.size ≤ w12.heap.size) := Lib.hid (Nat.le_trans HZ8.out (grown_alloc hgrow8).size); clear hown8 hgrow8 hlies8)
          | (refine appendLP4 rfl _ _ rfl HWR.out HZ12.out (by omega) rfl rfl rfl ?_; intro g9 cap9 w13 hown9 hgrow9 hlies9; have H9 := Lib.hid (And.intro hown9 (And.intro hgrow9 hlies9)); clear hown9 hgrow9 hlies9))
        go_roundw
        case rel => exact ⟨t + 1, k + 1, m6, d5, d6, y5, y6, _, _, QL, rfl, rfl, rfl, rfl, by go_num, by omega, by omega, hd5, hd6, by omega, HM5, Lib.hid (HSA.out.push HB12.out HM5.out hm5' HNX.out.1 HO8.out HP8.out HW8.out H8.out.1 H8.out.2.1 (lies_own (P := fun g => _ = some g ∨ _ ≤ g) H8.out.2.2) H9.out.1 H9.out.2.1 (lies_own (P := fun g => _ = some g ∨ _ ≤ g) H9.out.2.2))⟩
        case measure => simp [intOf]; omega
      · have g2 : (QE == 0) = false := by rw [beq_eq_false_iff_ne]; exact h0
        clear h0
        go_wp2
        go_roundw
        case rel => exact ⟨t + 1, k, an, ac, bc, ax, bx, _, _, cur, rfl, rfl, rfl, rfl, by go_num, by omega, by omega, hac, hbc, han, HCN, Lib.hid ⟨_, _, _, _, _, _, HSA.out.after HB12.out⟩⟩
        case measure => simp [intOf]; omega
    · have q2 : ¬ (t : Int) < sn := by omega
      have HOW : Hid (Calls Tryz.prog 26 #[lv, wv] wr fun e w' => e = .returned (.bool true) ∧ Below w4.heap.size w4 w') := Lib.hid (by
        by_cases hk0 : k = 0
        · obtain ⟨rfl, rfl⟩ := HSA.out.none_ hk0
          refine (powned_nil wr).mono ?_
          rintro e w' ⟨rfl, hb⟩
          exact ⟨rfl, HBR.out.trans (hb.mono HBR.out.size)⟩
        · obtain ⟨A, cl, hal, _, _⟩ := row_form HSA.out.pl.lrow (by omega)
          obtain ⟨V, cv, hav, _, _⟩ := row_form HSA.out.pl.wrow (by omega)
          have hs := HSA.out
          subst hal hav
          refine (powned_any k w4.heap.size wr A cl V cv X Y C D F col (hs.pl.came fun j hj => Nat.le_trans (hs.len j hj) (by decide)) (LBP.of_row hs.pl.wrow) (fun j hj => (hs.pl.want j hj).prs) (by omega) (by omega)).mono ?_
          rintro e w' ⟨rfl, hb⟩
          exact ⟨rfl, HBR.out.trans hb⟩)
      clear HSA HBR HB8 HCN
      go_wp2_with fail
      refine HOW.out.mono ?_
      rintro e w9 ⟨rfl, hb⟩
      have HB9 := Lib.hid (HB4.out.trans (hb.mono HB4.out.size))
      clear hb HOW HB4
      go_wp2_with fail
      refine (HST.out _ HB9.out).mono ?_
      rintro e w10 ⟨rfl, hb⟩
      have HB10 := Lib.hid (HB9.out.trans (hb.mono HB9.out.size))
      clear hb
      go_wp2
      go_ret
      exact ⟨rfl, HB10.out⟩
end Go.Proofs.YticcdighfojjjaaGreatDoor
