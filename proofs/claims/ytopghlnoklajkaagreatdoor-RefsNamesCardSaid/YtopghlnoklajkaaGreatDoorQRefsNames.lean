/-
  RefsNames.
-/
import Derived.Test.YtopghlnoklajkaaGreatDoorQRefsPieces
import Derived.Test.YtopghlnoklajkaaGreatDoorQRowOps
namespace Go.Proofs.YtopghlnoklajkaaGreatDoor
open Go.ChangeShapes Go.WideShapes Go.ChangeAt Go.RowKit

def nmS (n : List UInt8) : Value := .string ⟨n.toArray⟩
/-- What Names answers. -/
def NmRes (w : World) (p : List (List UInt8) × Int) (e : Ending) (w' : World) : Prop :=
  ∃ v, e = .returned (.tuple #[v, .int .i64 p.2]) ∧ w'.ownsRow w.heap.size 9 1 v p.1.length (p.1.map nmS) ∧ Below w.heap.size w w'
/-- A round of Names: the pieces, the names so far. -/
structure NmsAt (w wr : World) (lv v : Value) (l : List PcB) (ts : List (List UInt8)) : Prop where
  below : Below w.heap.size w wr
  l : wr.ownsRow w.heap.size 71 2 lv l.length (pFlat l)
  own : wr.ownsRow w.heap.size 9 1 v ts.length (ts.map nmS)
theorem NmsAt.after {w wr w' : World} {lv v : Value} {l : List PcB} {ts : List (List UInt8)} (h : NmsAt w wr lv v l ts) (hb : Below wr.heap.size wr w') : NmsAt w w' lv v l ts :=
  ⟨h.below.trans (hb.mono h.below.size), rowBelow h.l hb, rowBelow h.own hb⟩
/-- A piece in memory. -/
theorem pc_cells {w : World} {B n : Nat} {v : Value} {l : List PcB} (h : w.ownsRow B 71 2 v n (pFlat l)) {k : Nat} (hk : k < l.length) : ∃ b c, v = .slice (some ⟨b, 0, none⟩) n c ∧ w.cell? ⟨b, k * 2, none⟩ = some (.string ⟨l[k].1.toArray⟩) ∧ w.cell? ⟨b, k * 2 + 1, none⟩ = some (.bool l[k].2) := by
  have hs := pFlat_len l
  rcases h.2 with ⟨h1, h2⟩ | ⟨g, cap, cur, h1, _⟩
  · have := h.1
    rw [hs] at this
    omega
  · have hv := h
    rw [h1] at hv
    refine ⟨g, cap, h1, ?_, ?_⟩
    · have := pFlat_at l k hk 0 (by decide)
      rw [hv.cellAt (k * 2) (by have := h.1; rw [hs] at this; omega)]
      simpa [pCells] using this
    · have := pFlat_at l k hk 1 (by decide)
      rw [hv.cellAt (k * 2 + 1) (by have := h.1; rw [hs] at this; omega)]
      simpa [pCells] using this
/-- A name in memory. -/
theorem nm_cell {w : World} {B n : Nat} {v : Value} {ts : List (List UInt8)} (h : w.ownsRow B 9 1 v n (ts.map nmS)) {k : Nat} (hk : k < ts.length) : ∃ b c, v = .slice (some ⟨b, 0, none⟩) n c ∧ w.cell? ⟨b, k, none⟩ = some (.string ⟨ts[k].toArray⟩) := by
  rcases h.2 with ⟨h1, h2⟩ | ⟨g, cap, cur, h1, _⟩
  · have := h.1
    rw [List.length_map] at this
    omega
  · have hv := h
    rw [h1] at hv
    refine ⟨g, cap, h1, ?_⟩
    rw [hv.cellAt k (by have := h.1; rw [List.length_map] at this; omega), List.getElem?_map, List.getElem?_eq_getElem hk]
    rfl
/-- A name goes to a list of names of a call's own. -/
theorem appendNm {ops : Array Oper} {rest : List Oper} {o : Oper} {a : Act} {Q : Exit → Act → World → Prop} (hgd : o.guard = none) (s x : Operand)
    (ho : o.op = .call { callee := .builtin .append, args := #[s, x], argTypes := #[24, 24] }) {B n : Nat} {w : World} {v : Value} {ts : List (List UInt8)} (hown : w.ownsRow B 9 1 v n (ts.map nmS)) (hB : B ≤ w.heap.size) (hn : n ≤ 10000000000) (t : List UInt8) (u : ByteArray) (hu : u = ⟨t.toArray⟩) (hs : a.eval s = v)
    {c g : Nat} (hx : a.eval x = .slice (some ⟨g, 0, none⟩) 1 c) (hg : g = w.heap.size)
    (h : ∀ y cap w', w'.ownsRow B 9 1 (.slice (some ⟨y, 0, none⟩) (n + 1) cap) (n + 1) ((ts ++ [t]).map nmS) → (w.alloc (Obj.cells #[.string u] 9)).grownBy w' v.ownBlock → wpList Tryz.prog ops Q rest (a.put o.dst (.slice (some ⟨y, 0, none⟩) (n + 1) cap)) w') :
    wpList Tryz.prog ops Q (o :: rest) a (w.alloc (Obj.cells #[.string u] 9)) := by
  subst hg hu
  obtain ⟨i0, hi, hz0, hz1, hz2⟩ := info_parts infoStr
  refine wpList_append_lies _ hgd s x _ ho B 9 i0 _ 1 16 Tryz.underlying24 hi hz0 hz1 hz2 rfl (by decide) v n (ts.map nmS) hs (hown.alloc _) ⟨w.heap.size, 0, none⟩ 1 c [nmS t] hx rfl (World.news_of_block (heap_alloc_new w _)) ?_ (by decide) (by unfold maxLen; omega) (by omega) (Nat.le_trans hB (below_one w _).size) _ rfl ?_
  · intro u' hu'
    rw [List.mem_singleton.1 hu']; rfl
  · intro y cap w1 h1 h2 _ _
    exact h y cap w1 (by rw [List.map_append]; exact h1) h2
theorem bytes_eqN (a b : List UInt8) : ((⟨a.toArray⟩ : ByteArray).toList == (⟨b.toArray⟩ : ByteArray).toList) = (a == b) := by rw [Lib.toList_data, Lib.toList_data]
theorem take_has (ts : List (List UInt8)) (j : Nat) (hj : j < ts.length) (nm : List UInt8) : (ts.take (j + 1)).contains nm = ((ts.take j).contains nm || (ts[j] == nm)) := by
  rw [List.take_succ_eq_append_getElem hj, Bool.eq_iff_iff]
  simp only [List.contains_iff_mem, List.mem_append, List.mem_singleton, Bool.or_eq_true, beq_iff_eq]
  constructor
  · rintro (h | h)
    · exact .inl h
    · exact .inr h.symm
  · rintro (h | h)
    · exact .inl h
    · exact .inr h.symm
set_option maxHeartbeats 6400000 in
set_option maxRecDepth 100000 in
theorem refNames_any (s : ByteArray) (w : World) (hs : s.size ≤ 4294967280) :
    Calls Tryz.prog 10 #[.string s] w (NmRes w (namesB s.data.toList)) := by
  have HPC := Lib.hid (refPieces_any s w hs)
  obtain ⟨R, hR⟩ : ∃ R, namesB s.data.toList = R := ⟨_, rfl⟩
  have HPL : Hid (∀ l, piecesB s.data.toList = some l → l.length ≤ 4294967281) := Lib.hid fun l h => by
    have := pieces_len h
    have e : s.data.toList.length = s.size := by simp
    omega
  have hR2 := hR
  unfold namesB at hR2
  rw [hR]
  clear hR
  cases hp : piecesB s.data.toList with
  | none =>
    rw [hp] at hR2 HPC
    simp only at hR2
    subst hR2
    clear HPL hp
    go_enter Tryz.func10, Tryz.ntmps10
    go_wp2_with fail
    refine HPC.out.mono ?_
    rintro e w1 ⟨hb1, rfl⟩
    go_wp2
    go_ret2
    exact ⟨_, rfl, World.ownsRow_nil _ _ _ _, hb1⟩
  | some l =>
    rw [hp] at hR2 HPC
    simp only at hR2
    have hll := HPL.out l hp
    have HRR := Lib.hid hR2
    clear HPL hp hR2
    go_enter Tryz.func10, Tryz.ntmps10
    go_wp2_with fail
    refine HPC.out.mono ?_
    rintro e w1 ⟨hb1, lv, rfl, hl1⟩
    have H0 : Hid (NmsAt w w1 lv (.slice none 0 0) l (namesL (l.take 0))) := Lib.hid ⟨hb1, hl1, World.ownsRow_nil _ _ _ _⟩
    obtain ⟨lx, lc, hlv⟩ : ∃ x c, lv = .slice x l.length c := by
      rcases hl1.2 with ⟨h1, h2⟩ | ⟨g, cap, cur, h1, _⟩
      · exact ⟨none, 0, by rw [h1, h2]⟩
      · exact ⟨_, _, h1⟩
    subst hlv
    obtain ⟨n, hn⟩ : ∃ n, l.length = n := ⟨_, rfl⟩
    have HN := Lib.hid hn
    rw [hn] at H0 hll ⊢
    clear hb1 hl1 HPC hn
    go_wp2
    go_loopw [6, 7] (fun vv i wr => ∃ (v : Value) (k : Nat) (ts : List (List UInt8)), v = vv ∧ i = .int .i64 k ∧ k ≤ n ∧ ts.length ≤ k ∧ Hid (NmsAt w wr (.slice lx n lc) v l ts) ∧ Hid (ts = namesL (l.take k))) (fun _ i _ => n - (intOf i).toNat)
    case atStart => exact ⟨_, 0, [], rfl, rfl, by omega, by simp, H0, Lib.hid rfl⟩
    case round =>
      clear H0
      obtain ⟨v, k, ts, rfl, rfl, hk, htl, HA, HT⟩ := hrel
      by_cases hlt : k < n
      · have q1 : (0 : Int) ≤ k := by omega
        have q2 : (k : Int) < n := by omega
        have hkl : k < l.length := by rw [HN.out]; exact hlt
        obtain ⟨b, c, hbe, c0, c1⟩ := pc_cells HA.out.l hkl
        have HLC : Hid (∀ W, NmsAt w W (.slice lx n lc) v l ts → ∃ b', lx = some ⟨b', 0, none⟩ ∧ W.cell? ⟨b', k * 2, none⟩ = some (.string ⟨l[k].1.toArray⟩)) := Lib.hid fun W h => by
          obtain ⟨b', c', h1, h2, _⟩ := pc_cells h.l hkl
          injection h1 with h1 _ _
          exact ⟨b', h1, h2⟩
        injection hbe with hbe hx1 hx2
        clear hx1 hx2
        have htk := namesL_take l k hkl
        rw [← HT.out] at htk
        generalize l[k] = p at *
        obtain ⟨nm, rf⟩ := p
        simp only at c0 c1 HLC
        have HTK := Lib.hid htk
        subst hbe
        clear hkl htk HT
        cases rf with
        | false =>
          have HT2 : Hid (ts = namesL (l.take (k + 1))) := Lib.hid (by rw [HTK.out]; rfl)
          clear HTK
          go_wp2
          go_roundw
          case rel => exact ⟨_, k + 1, ts, rfl, by go_num, by omega, by omega, HA, HT2⟩
          case measure => simp [intOf]; omega
        | true =>
          have HT2 : Hid (addN ts nm = namesL (l.take (k + 1))) := Lib.hid (by rw [HTK.out]; rfl)
          obtain ⟨m, hm⟩ : ∃ m, ts.length = m := ⟨_, rfl⟩
          have HM := Lib.hid hm
          obtain ⟨vx, vc, hvv⟩ : ∃ x c, v = .slice x m c := by
            rcases HA.out.own.2 with ⟨h1, h2⟩ | ⟨g, cap, cur, h1, _⟩
            · exact ⟨none, 0, by rw [h1]; congr 1; omega⟩
            · exact ⟨some ⟨g, 0, none⟩, cap, by rw [h1, hm]⟩
          subst hvv
          have hm2 : m ≤ k := by omega
          have HN0 : Hid ((ts.take 0).contains nm = false) := Lib.hid (by simp)
          clear HTK hm htl
          obtain ⟨wo, hwo⟩ : ∃ wo, wo = wr := ⟨_, rfl⟩
          subst hwo
          go_wp2
          go_loopw [8, 9] (fun mm kk wr => ∃ (j : Nat), mm = .bool ((ts.take j).contains nm) ∧ kk = .int .i64 j ∧ j ≤ m ∧ Hid (NmsAt w wr (.slice (some ⟨b, 0, none⟩) n lc) (.slice vx m vc) l ts)) (fun _ kk _ => m - (intOf kk).toNat)
          case atStart => exact ⟨0, by rw [HN0.out], rfl, by omega, HA⟩
          case round =>
            clear HN0 HA c0 c1
            obtain ⟨j, rfl, rfl, hj, HB⟩ := hrel
            by_cases hjt : j < m
            · have q3 : (0 : Int) ≤ j := by omega
              have q4 : (j : Int) < m := by omega
              have hjl : j < ts.length := by rw [HM.out]; exact hjt
              obtain ⟨b2, _, hb2, e0⟩ := nm_cell HB.out.own hjl
              injection hb2 with hb2 hx1 hx2
              clear hx1 hx2
              obtain ⟨b3, hb3, e1⟩ := HLC.out _ HB.out
              obtain rfl : b = b3 := by simpa using hb3
              have hth := take_has ts j hjl nm
              have heq := bytes_eqN ts[j] nm
              generalize ts[j] = tj at *
              generalize (⟨tj.toArray⟩ : ByteArray) = A at *
              generalize (⟨nm.toArray⟩ : ByteArray) = C at *
              have HTH := Lib.hid (And.intro hth heq)
              have HB2 : Hid (NmsAt w wr.drew (.slice (some ⟨b, 0, none⟩) n lc) (.slice vx m vc) l ts) := Lib.hid (HB.out.after (below_drewN wr 1))
              subst hb2
              clear hth heq hjl hb3 HB HLC HT2
              cases hmet : (ts.take j).contains nm with
              | true =>
                go_wp2
                go_region
                all_goals
                  go_wp2
                  go_roundw
                  case rel => exact ⟨j + 1, by rw [HTH.out.1, hmet]; rfl, by go_num, by omega, HB2⟩
                  case measure => simp [intOf]; omega
              | false =>
                go_wp2
                go_region
                all_goals
                  go_wp2
                  go_roundw
                  case rel => exact ⟨j + 1, by rw [HTH.out.1, hmet, HTH.out.2]; rfl, by go_num, by omega, HB2⟩
                  case measure => simp [intOf]; omega
            · obtain rfl : j = m := by omega
              have htm : ts.take j = ts := List.take_of_length_le (by rw [HM.out]; exact Nat.le_refl _)
              have q4 : ¬ (j : Int) < j := by omega
              rw [htm]
              cases hmet : ts.contains nm with
              | true =>
                have HT3 : Hid (ts = namesL (l.take (k + 1))) := Lib.hid (by rw [← HT2.out]; unfold addN; rw [if_pos hmet])
                clear HT2 htm
                go_wp2
                go_roundw
                case rel => exact ⟨_, k + 1, ts, rfl, by go_num, by omega, by rw [HM.out]; omega, HB, HT3⟩
                case measure => simp [intOf]; omega
              | false =>
                have HT3 : Hid (ts ++ [nm] = namesL (l.take (k + 1))) := Lib.hid (by rw [← HT2.out]; unfold addN; rw [if_neg (by rw [hmet]; simp)])
                obtain ⟨b3, hb3, e1⟩ := HLC.out _ HB.out
                obtain rfl : b = b3 := by simpa using hb3
                have HSZ := Lib.hid HB.out.below.size
                have HOW := Lib.hid (by have h := HB.out.own; rw [HM.out] at h; exact h)
                clear HT2 htm hb3 HLC
                go_wp2_with (at_builtin; refine appendNm rfl _ _ rfl HOW.out HSZ.out (by omega) nm _ rfl rfl rfl rfl ?_; intro y cap w5 ho hg; have HB5 : Hid (NmsAt w w5 (.slice (some ⟨b, 0, none⟩) n lc) (.slice (some ⟨y, 0, none⟩) (j + 1) cap) l (ts ++ [nm])) := Lib.hid ⟨(HB.out.below.alloc HB.out.below.size _).grown hg (Nat.le_trans HB.out.below.size (below_one wr _).size) (fun k hk => (HB.out.own.lt k hk).1), rowGrown HB.out.l HB.out.own (by decide) hg, by rw [List.length_append, HM.out]; exact ho⟩; clear ho hg)
                go_roundw
                case rel => exact ⟨_, k + 1, ts ++ [nm], rfl, by go_num, by omega, by rw [List.length_append, HM.out, List.length_singleton]; omega, HB5, HT3⟩
                case measure => simp [intOf]; omega
      · obtain rfl : k = n := by omega
        have q2 : ¬ (k : Int) < k := by omega
        have HT2 : Hid ((ts, (0 : Int)) = R) := Lib.hid (by rw [← HRR.out, HT.out, List.take_of_length_le (by rw [HN.out]; exact Nat.le_refl _)])
        clear HT HRR
        go_wp2
        go_ret2
        rw [← HT2.out]
        exact ⟨_, rfl, HA.out.own, HA.out.below⟩
end Go.Proofs.YtopghlnoklajkaaGreatDoor
