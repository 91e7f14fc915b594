/-
  StpRef2, StpRef3.
-/
import Derived.Test.YticcdighfojjjaaGreatDoorQStpRef1
import Derived.Test.YticcdighfojjjaaGreatDoorQStpRight
namespace Go.Proofs.YticcdighfojjjaaGreatDoor
open Go.ChangeShapes Go.WideShapes Go.ChangeAt Go.RowKit

theorem drop_snoc {ps : List PairV} {t k : ByteArray} {s : Nat} (h : s < ps.length) : dropP (ps.take (s + 1)) t k = dropP (ps.take s) t k ++ (if keepP t k ps[s] then [ps[s]] else []) := by
  unfold dropP
  rw [List.take_add_one, List.getElem?_eq_getElem h, List.filter_append]
  congr 1
  simp only [Option.toList_some, List.filter_cons, List.filter_nil]
theorem filter_len (f : PairV → Bool) (ps : List PairV) (s : Nat) : ((ps.take s).filter f).length ≤ s := Nat.le_trans (List.length_filter_le _ _) (by rw [List.length_take]; omega)
set_option maxHeartbeats 1600000 in
theorem refBut_any (ps : List PairV) (x : Option Addr) (n c : Nat) (t k : ByteArray) (w : World) (h : PrsAt w x ps) (hn : ps.length = n) (hl : n ≤ 2147483647) :
    Calls Tryz.prog 69 #[.slice x n c, .string t, .string k] w fun e w' => ∃ v, e = .returned v ∧ OwnP w w' v (dropP ps t k) := by
  have HN := Lib.hid hn
  have HX := Lib.hid h
  have hk0 : decide (k.size = 0) = (k.toList == []) := by
    rw [Bool.eq_iff_iff, decide_eq_true_iff, beq_iff_eq, Lib.toList_data]
    constructor
    · intro e; exact List.eq_nil_of_length_eq_zero (by have := data_len k; omega)
    · intro e; have := data_len k; rw [e] at this; exact this.symm
  have HK0 := Lib.hid hk0
  clear hn h hk0
  go_enter Tryz.func69, Tryz.ntmps69
  go_wp2
  go_loopw [7, 8] (fun vv i wr => ∃ (v : Value) (s : Nat), v = vv ∧ i = .int .i64 s ∧ s ≤ n ∧ Hid (OwnP w wr v (dropP (ps.take s) t k))) (fun _ i _ => n - (intOf i).toNat)
  case atStart => exact ⟨_, 0, rfl, rfl, by omega, Lib.hid (OwnP.nil_ w)⟩
  case round =>
    obtain ⟨v, s, rfl, rfl, hs, HO⟩ := hrel
    by_cases hlt : s < n
    · have hsx : s < ps.length := by rw [HN.out]; exact hlt
      obtain ⟨b, off, hx, hbl, c0, c1, c2⟩ := (HX.out.below HO.out.below) s hsx
      have q1 : (0 : Int) ≤ s := by omega
      have q2 : (s : Int) < n := by omega
      have HS := Lib.hid (drop_snoc (t := t) (k := k) hsx)
      have HL : Hid ((dropP (ps.take s) t k).length ≤ s) := Lib.hid (filter_len _ _ _)
      generalize ps[s] = q at c0 c1 c2 HS
      obtain ⟨qt, qk, qv⟩ := q
      have HE : Hid (keepP t k ⟨qt, qk, qv⟩ = (!(qt.toList == t.toList) || (!(k.toList == []) && !(qk.toList == k.toList)))) := Lib.hid (by unfold keepP eqB; rw [HK0.out])
      dsimp only at c0 c1 c2
      clear hsx HX
      subst hx
      have hyes : keepP t k ⟨qt, qk, qv⟩ = true → Hid (dropP (ps.take (s + 1)) t k = dropP (ps.take s) t k ++ [⟨qt, qk, qv⟩]) := fun h => Lib.hid (by rw [HS.out, h]; rfl)
      have hno : keepP t k ⟨qt, qk, qv⟩ = false → Hid (OwnP w wr v (dropP (ps.take (s + 1)) t k)) := fun h => Lib.hid (by rw [HS.out, h]; simpa using HO.out)
      rw [HE.out] at hyes hno
      clear HS HE
      cases h1 : (qt.toList == t.toList) with
      | false =>
        have HY := hyes (by rw [h1]; rfl)
        clear hyes hno
        go_wp2_with (at_builtin; refine appendP rfl _ _ rfl HO.out (by have := HL.out; omega) rfl rfl rfl ?_; intro y cap w5 ho hg; have HO5 := Lib.hid ho; clear ho hg)
        go_roundw
        case rel => exact ⟨_, s + 1, rfl, by go_num, by omega, Lib.hid (by rw [HY.out]; have := HO5.out; rwa [show (dropP (ps.take s) t k).length + 1 = (dropP (ps.take s) t k).length + 1 from rfl] at this)⟩
        case measure => simp [intOf]; omega
      | true =>
        cases h2 : (k.toList == []) with
        | true =>
          have HY := hno (by rw [h1, h2]; rfl)
          clear hyes hno
          have h2' : k.toList.isEmpty = true := by simpa using h2
          go_wp2
          go_roundw
          case rel => exact ⟨_, s + 1, rfl, by go_num, by omega, HY⟩
          case measure => simp [intOf]; omega
        | false =>
          have h2' : k.toList.isEmpty = false := by simpa using h2
          cases h3 : (qk.toList == k.toList) with
          | true =>
            have HY := hno (by rw [h1, h2, h3]; rfl)
            clear hyes hno
            go_wp2
            go_roundw
            case rel => exact ⟨_, s + 1, rfl, by go_num, by omega, HY⟩
            case measure => simp [intOf]; omega
          | false =>
            have HY := hyes (by rw [h1, h2, h3]; rfl)
            clear hyes hno
            go_wp2_with (at_builtin; refine appendP rfl _ _ rfl HO.out (by have := HL.out; omega) rfl rfl rfl ?_; intro y cap w5 ho hg; have HO5 := Lib.hid ho; clear ho hg)
            go_roundw
            case rel => exact ⟨_, s + 1, rfl, by go_num, by omega, Lib.hid (by rw [HY.out]; exact HO5.out)⟩
            case measure => simp [intOf]; omega
    · have hte : s = n := by omega
      subst hte
      have HF : Hid (OwnP w wr v (dropP ps t k)) := Lib.hid (by have := HO.out; rwa [List.take_of_length_le (by rw [HN.out]; exact Nat.le_refl _)] at this)
      go_wp2
      go_ret
      exact ⟨_, rfl, HF.out⟩
theorem tw_is {p : PairV} : ∀ {ps : List PairV} {s : Nat}, s ≤ ps.length → (∀ j (hj : j < ps.length), j < s → lessP ps[j] p = true) → (∀ h : s < ps.length, lessP ps[s] p = false) → ps.takeWhile (fun q => lessP q p) = ps.take s ∧ ps.dropWhile (fun q => lessP q p) = ps.drop s
  | [], s, hs, _, _ => by obtain rfl : s = 0 := by simpa using hs
                          exact ⟨rfl, rfl⟩
  | q :: r, 0, _, _, h2 => by
    have := h2 (by simp)
    rw [List.getElem_cons_zero] at this
    simp [this]
  | q :: r, s + 1, hs, h1, h2 => by
    have h0 := h1 0 (by simp) (by omega)
    rw [List.getElem_cons_zero] at h0
    obtain ⟨a, b⟩ := tw_is (ps := r) (s := s) (by simpa using hs) (fun j hj hj2 => by have := h1 (j + 1) (by simp; omega) (by omega); simpa using this) (fun h => by have := h2 (by simp; omega); simpa using this)
    simp [h0, a, b]
set_option maxHeartbeats 3200000 in
set_option maxRecDepth 100000 in
theorem refWith_any (ps : List PairV) (x : Option Addr) (n c : Nat) (p : PairV) (w : World) (h : PrsAt w x ps) (hn : ps.length = n) (hc : n ≤ c) (hl : n ≤ 2147483647) :
    Calls Tryz.prog 68 #[.slice x n c, pV p] w fun e w' => ∃ v, e = .returned v ∧ OwnP w w' v (insP ps p) := by
  obtain ⟨pt, pk, pv⟩ := p
  have HN := Lib.hid hn
  have HX := Lib.hid h
  have HC := Lib.hid hc
  unfold pV
  dsimp only
  clear hn h hc
  go_enter Tryz.func68, Tryz.ntmps68
  go_wp2
  obtain ⟨w1, hw1⟩ : ∃ w1, w.alloc (Obj.cells #[.string pt, .string pk, .string pv] 51) = w1 := ⟨_, rfl⟩
  have HB1 : Hid (Below w.heap.size w w1) := Lib.hid (by rw [← hw1]; exact below_one _ _)
  obtain ⟨P, hP⟩ : ∃ P, w.heap.size = P := ⟨_, rfl⟩
  have HP : Hid (w1.cell? ⟨P, 0, none⟩ = some (.string pt) ∧ w1.cell? ⟨P, 1, none⟩ = some (.string pk) ∧ w1.cell? ⟨P, 2, none⟩ = some (.string pv) ∧ P < w1.heap.size) := Lib.hid (by rw [← hw1, ← hP]; simp)
  rw [hw1, hP]
  clear hw1 hP
  go_loopw [5, 6] (fun vv i wr => ∃ (v : Value) (s : Nat), v = vv ∧ i = .int .i64 s ∧ s ≤ n ∧ Hid (OwnP w1 wr v (ps.take s) ∧ ∀ j (hj : j < ps.length), j < s → lessP ps[j] ⟨pt, pk, pv⟩ = true)) (fun _ i _ => n - (intOf i).toNat)
  case atStart => exact ⟨_, 0, rfl, rfl, by omega, Lib.hid ⟨OwnP.nil_ w1, fun j _ hj => by omega⟩⟩
  case round =>
    obtain ⟨v, s, rfl, rfl, hs, HO⟩ := hrel
    have HOB : Hid (Below w.heap.size w wr) := Lib.hid (HB1.out.trans (HO.out.1.below.mono HB1.out.size))
    have hpl := HP.out.2.2.2
    have p0 := (HO.out.1.below.cell (p := ⟨P, 0, none⟩) hpl).trans HP.out.1
    have p1 := (HO.out.1.below.cell (p := ⟨P, 1, none⟩) hpl).trans HP.out.2.1
    have p2 := (HO.out.1.below.cell (p := ⟨P, 2, none⟩) hpl).trans HP.out.2.2.1
    clear hpl
    by_cases hlt : s < n
    · have hsx : s < ps.length := by rw [HN.out]; exact hlt
      obtain ⟨b, off, hx, hbl, c0, c1, c2⟩ := (HX.out.below HOB.out) s hsx
      have q1 : (0 : Int) ≤ s := by omega
      have q2 : (s : Int) < n := by omega
      have HTK : Hid (ps.take (s + 1) = ps.take s ++ [ps[s]]) := Lib.hid (by rw [List.take_add_one, List.getElem?_eq_getElem hsx]; rfl)
      have HLS : Hid (∀ B, lessP ps[s] ⟨pt, pk, pv⟩ = B → (B = true → ∀ j (hj : j < ps.length), j < s + 1 → lessP ps[j] ⟨pt, pk, pv⟩ = true) ∧ (B = false → insP ps ⟨pt, pk, pv⟩ = ps.take s ++ ⟨pt, pk, pv⟩ :: ps.drop s)) := Lib.hid (by
        intro B hB
        refine ⟨fun h j hj hj2 => ?_, fun h => ?_⟩
        · rcases Nat.lt_or_ge j s with h1 | h1
          · exact HO.out.2 j hj h1
          · obtain rfl : j = s := by omega
            rw [hB, h]
        · obtain ⟨e1, e2⟩ := tw_is (p := ⟨pt, pk, pv⟩) (Nat.le_of_lt hsx) HO.out.2 (fun _ => by rw [hB, h])
          unfold insP; rw [e1, e2])
      have HTL : Hid ((ps.take s).length = s) := Lib.hid (by rw [List.length_take]; omega)
      generalize ps[s] = q at c0 c1 c2 HTK HLS
      obtain ⟨qt, qk, qv⟩ := q
      dsimp only at c0 c1 c2
      have HLC : Hid (∀ W, Calls Tryz.prog 66 #[.agg #[.string qt, .string qk, .string qv], .agg #[.string pt, .string pk, .string pv]] W fun e w' => e = .returned (.bool (lessP ⟨qt, qk, qv⟩ ⟨pt, pk, pv⟩)) ∧ Below W.heap.size W w') := Lib.hid fun W => refLess_any _ _ W
      obtain ⟨B, hB⟩ : ∃ B, lessP ⟨qt, qk, qv⟩ ⟨pt, pk, pv⟩ = B := ⟨_, rfl⟩
      rw [hB] at HLC
      have HLB := Lib.hid (HLS.out B hB)
      have HO0 := Lib.hid HO.out.1
      clear hB HLS hsx HO
      generalize ps.take s = T at HO0 HTK HTL HLB
      subst hx
      have HC6 : Hid (∀ W, Below wr.heap.size wr W → W.cell? ⟨b, off + s * 3, none⟩ = some (.string qt) ∧ W.cell? ⟨b, off + s * 3 + 1, none⟩ = some (.string qk) ∧ W.cell? ⟨b, off + s * 3 + 2, none⟩ = some (.string qv) ∧ W.cell? ⟨P, 0, none⟩ = some (.string pt) ∧ W.cell? ⟨P, 1, none⟩ = some (.string pk) ∧ W.cell? ⟨P, 2, none⟩ = some (.string pv)) := Lib.hid fun W hb => ⟨(hb.cell (lt_of_cell c0)).trans c0, (hb.cell (lt_of_cell c1)).trans c1, (hb.cell (lt_of_cell c2)).trans c2, (hb.cell (lt_of_cell p0)).trans p0, (hb.cell (lt_of_cell p1)).trans p1, (hb.cell (lt_of_cell p2)).trans p2⟩
      cases B with
      | true =>
        have HL1 := Lib.hid (HLB.out.1 rfl)
        clear HLB
        go_wp2
        go_region_held3 (fun W => W.cell? ⟨b, off + s * 3, none⟩ = some (.string qt) ∧ W.cell? ⟨b, off + s * 3 + 1, none⟩ = some (.string qk) ∧ W.cell? ⟨b, off + s * 3 + 2, none⟩ = some (.string qv) ∧ W.cell? ⟨P, 0, none⟩ = some (.string pt) ∧ W.cell? ⟨P, 1, none⟩ = some (.string pk) ∧ W.cell? ⟨P, 2, none⟩ = some (.string pv)) (first | exact ⟨c0, c1, c2, p0, p1, p2⟩ | exact z6) (first | (go_at_call 66; (with_reducible refine (HLC.out _).mono ?_); rintro e w2 ⟨rfl, hb2⟩; have z6 := HC6.out w2 ((below_d wr).trans (hb2.mono (Nat.le_refl _)))))
        all_goals
          obtain ⟨e0, e1, e2, e3, e4, e5⟩ := z6
          have HO2 := Lib.hid (HO0.out.after ((below_d wr).trans (hb2.mono (Nat.le_refl _))))
          clear hb2 HLC HC6 c0 c1 c2 p0 p1 p2
          go_wp2_with (at_builtin; refine appendP rfl _ _ rfl HO2.out (by have := HTL.out; omega) rfl rfl rfl ?_; intro y cap w5 ho hg; have HO5 := Lib.hid ho; clear ho hg)
          go_roundw
          case rel => exact ⟨_, s + 1, rfl, by go_num, by omega, Lib.hid ⟨by rw [HTK.out]; exact HO5.out, HL1.out⟩⟩
          case measure => simp [intOf]; omega
      | false =>
        have HT := Lib.hid (HLB.out.2 rfl)
        clear HLB
        go_wp2
        go_region_held3 (fun W => W.cell? ⟨b, off + s * 3, none⟩ = some (.string qt) ∧ W.cell? ⟨b, off + s * 3 + 1, none⟩ = some (.string qk) ∧ W.cell? ⟨b, off + s * 3 + 2, none⟩ = some (.string qv) ∧ W.cell? ⟨P, 0, none⟩ = some (.string pt) ∧ W.cell? ⟨P, 1, none⟩ = some (.string pk) ∧ W.cell? ⟨P, 2, none⟩ = some (.string pv)) (first | exact ⟨c0, c1, c2, p0, p1, p2⟩ | exact z6) (first | (go_at_call 66; (with_reducible refine (HLC.out _).mono ?_); rintro e w2 ⟨rfl, hb2⟩; have z6 := HC6.out w2 ((below_d wr).trans (hb2.mono (Nat.le_refl _)))))
        all_goals
          obtain ⟨e0, e1, e2, e3, e4, e5⟩ := z6
          have HO2 := Lib.hid (HO0.out.after ((below_d wr).trans (hb2.mono (Nat.le_refl _))))
          clear hb2 HLC HC6 c0 c1 c2 p0 p1 p2
          obtain ⟨xr, cr, hsl, hqr, hcr⟩ := slice_rest HX.out HN.out hs HC.out
          have HR := Lib.hid hqr
          have ht3 : IntKind.i64.wrap (s : Int) = s := IntWalk.i64_in _ (by omega)
          clear hqr hcr
          go_wp2_with (first
            | (at_builtin; refine appendP rfl _ _ rfl HO2.out (by have := HTL.out; omega) rfl rfl rfl ?_; intro y cap w5 ho hg
               have HO5 := Lib.hid ho
               obtain ⟨y2, cap2, w6, hr, ho2, _⟩ := append_rest (u := .slice xr (n - s) cr) HO5.out (by simp) (by have := HTL.out; simp; omega) (qs := ps.drop s) (m := n - s) (by have := HN.out; simp; omega) (by omega) rfl (HR.out.below (HB1.out.trans (HO5.out.below.mono HB1.out.size))) 37
               have HO6 := Lib.hid ho2
               clear ho hg ho2)
            | (at_builtin; refine wpList_append_eq rfl _ _ _ _ rfl _ _ _ rfl rfl hr ?_))
          go_ret
          exact ⟨_, rfl, by have := HO6.out.lift HB1.out; simp only [List.length_append, List.length_singleton, List.append_assoc, List.singleton_append] at this; rw [HT.out]; exact this⟩

    · have hte : s = n := by omega
      have HT : Hid (insP ps ⟨pt, pk, pv⟩ = ps.take s ++ ⟨pt, pk, pv⟩ :: ps.drop s) := Lib.hid (by
        obtain ⟨e1, e2⟩ := tw_is (p := ⟨pt, pk, pv⟩) (ps := ps) (s := s) (by have := HN.out; omega) HO.out.2 (fun h => by have := HN.out; omega)
        unfold insP; rw [e1, e2])
      have HTL : Hid ((ps.take s).length = s) := Lib.hid (by rw [List.length_take]; have := HN.out; omega)
      have HO0 := Lib.hid HO.out.1
      have q2 : ¬ (s : Int) < n := by omega
      clear HO hte hlt
      generalize ps.take s = T at HO0 HTL HT
      go_wp2
      have q3 : ¬ (s : Int) < n := by omega
      go_region
      all_goals
        have HO2 := Lib.hid (HO0.out.after (below_d wr))
        clear HO0
        obtain ⟨xr, cr, hsl, hqr, hcr⟩ := slice_rest HX.out HN.out hs HC.out
        have HR := Lib.hid hqr
        have ht3 : IntKind.i64.wrap (s : Int) = s := IntWalk.i64_in _ (by omega)
        clear hqr hcr
        go_wp2_with (first
          | (at_builtin; refine appendP rfl _ _ rfl HO2.out (by have := HTL.out; omega) rfl rfl rfl ?_; intro y cap w5 ho hg
             have HO5 := Lib.hid ho
             obtain ⟨y2, cap2, w6, hr, ho2, _⟩ := append_rest (u := .slice xr (n - s) cr) HO5.out (by simp) (by have := HTL.out; simp; omega) (qs := ps.drop s) (m := n - s) (by have := HN.out; simp; omega) (by omega) rfl (HR.out.below (HB1.out.trans (HO5.out.below.mono HB1.out.size))) 37
             have HO6 := Lib.hid ho2
             clear ho hg ho2)
          | (at_builtin; refine wpList_append_eq rfl _ _ _ _ rfl _ _ _ rfl rfl hr ?_))
        go_ret
        exact ⟨_, rfl, by have := HO6.out.lift HB1.out; simp only [List.length_append, List.length_singleton, List.append_assoc, List.singleton_append] at this; rw [HT.out]; exact this⟩

end Go.Proofs.YticcdighfojjjaaGreatDoor

namespace Go.Proofs.YticcdighfojjjaaGreatDoor
open Go.ChangeShapes Go.WideShapes Go.ChangeAt Go.RowKit

/-- A list of pairs, somewhere: what such a call answers. -/
def DoesRes (w : World) (x0 : Option Addr × List PairV) (r : List PairV × Int) (e : Ending) (w' : World) : Prop := ∃ x c, e = .returned (.tuple #[.slice x r.1.length c, .int .i64 r.2]) ∧ PrsAt w' x r.1 ∧ r.1.length ≤ c ∧ Below w.heap.size w w' ∧ ((x = x0.1 ∧ r.1 = x0.2) ∨ ∀ b off, x = some ⟨b, off, none⟩ → w.heap.size ≤ b)
theorem new_none {n : Nat} : ∀ b off, (none : Option Addr) = some ⟨b, off, none⟩ → n ≤ b := fun _ _ h => by cases h
theorem OwnP.new_ {w0 w : World} {x : Option Addr} {n c : Nat} {ps : List PairV} (h : OwnP w0 w (.slice x n c) ps) : ∀ b off, x = some ⟨b, off, none⟩ → w0.heap.size ≤ b := fun b off e => by
  rcases h.own.2 with ⟨h1, _⟩ | ⟨g, cap, cur, h1, hB, _⟩
  · injection h1 with e1 _ _
    rw [e1] at e; cases e
  · injection h1 with e1 _ _
    rw [e1] at e
    injection e with e
    injection e with e _ _
    omega
theorem OwnP.some_ {w0 w : World} {v : Value} {ps : List PairV} (h : OwnP w0 w v ps) : ∃ x c, v = .slice x ps.length c ∧ PrsAt w x ps ∧ ps.length ≤ c := by
  obtain ⟨x, c, e, hp⟩ := h.prs
  refine ⟨x, c, e, hp, ?_⟩
  rcases h.own.2 with ⟨h1, h2⟩ | ⟨g, cap, cur, h1, _, _, h4, _⟩
  · omega
  · rw [e] at h1
    injection h1 with _ _ e3
    omega
/-- Where pairs begin to be none: the first place at which one may not be. -/
theorem okP_not {p : PairV} (h : okP p = false) : ∀ {l : List PairV}, p ∈ l → pairsB l = false := fun {l} hp => by
  cases e : pairsB l with
  | false => rfl
  | true => have := (pairsB_iff.1 e).2.1 p hp; rw [h] at this; cases this
theorem rises_at : ∀ {l : List PairV}, risesP l = true ↔ ∀ i (h : i + 1 < l.length), lessP (l[i]'(by omega)) l[i + 1] = true
  | [] => by simp [risesP]
  | [p] => by simp [risesP]
  | p :: q :: r => by
    have ih := rises_at (l := q :: r)
    unfold risesP
    rw [Bool.and_eq_true, ih]
    constructor
    · rintro ⟨h1, h2⟩ i hi
      cases i with
      | zero => exact h1
      | succ i => exact h2 i (by simpa using hi)
    · intro h
      exact ⟨h 0 (by simp), fun i hi => h (i + 1) (by simpa using hi)⟩
theorem pairs_yes {l : List PairV} (h1 : l.length ≤ 500) (h2 : ∀ j (hj : j < l.length), okP l[j] = true) (h3 : ∀ i (h : i + 1 < l.length), lessP (l[i]'(by omega)) l[i + 1] = true) : pairsB l = true := by
  refine pairsB_iff.2 ⟨h1, fun p hp => ?_, (rises_iff l).1 (rises_at.2 h3)⟩
  obtain ⟨j, hj, rfl⟩ := List.getElem_of_mem hp
  exact h2 j hj
theorem pairs_less {l : List PairV} {i : Nat} (h : i + 1 < l.length) (hn : lessP (l[i]'(by omega)) l[i + 1] = false) : pairsB l = false := by
  cases e : pairsB l with
  | false => rfl
  | true =>
    have := rises_at.1 ((rises_iff l).2 (pairsB_iff.1 e).2.2) i h
    rw [hn] at this; cases this
/-- How great the texts of pairs may be. -/
def PrsOk (ps : List PairV) : Prop := ∀ p ∈ ps, p.table.size ≤ 2147483647 ∧ p.key.size ≤ 2147483647 ∧ p.value.size ≤ 2147483647
set_option maxHeartbeats 6400000 in
set_option maxRecDepth 100000 in
theorem spairs_any (ps : List PairV) (x : Option Addr) (n c : Nat) (w : World) (h : PrsAt w x ps) (hn : ps.length = n) (hok : PrsOk ps) :
    Calls Tryz.prog 43 #[.slice x n c] w fun e w' => e = .returned (.bool (pairsB ps)) ∧ Below w.heap.size w w' := by
  have HN := Lib.hid hn
  have HX := Lib.hid h
  have HOK := Lib.hid hok
  by_cases hbig : 500 < n
  · have hv : pairsB ps = false := by unfold pairsB; rw [decide_eq_false (by omega)]; rfl
    rw [hv]
    clear hv hn h hok
    go_enter Tryz.func43, Tryz.ntmps43
    go_wp2
    go_ret
    exact ⟨rfl, Below.refl _ _⟩
  have hsm : ¬ (500 : Int) < n := by omega
  have hn5 : n ≤ 500 := by omega
  clear hn h hok hbig
  go_enter Tryz.func43, Tryz.ntmps43
  go_wp2
  go_loopw [3] (fun i wr => ∃ s : Nat, i = .int .i64 s ∧ s ≤ n ∧ Hid (Below w.heap.size w wr ∧ (∀ j (hj : j < ps.length), j < s → okP ps[j] = true) ∧ ∀ i (hi : i + 1 < ps.length), i + 1 < s → lessP (ps[i]'(by omega)) ps[i + 1] = true)) (fun i _ => n - (intOf i).toNat)
  case atStart => exact ⟨0, rfl, by omega, Lib.hid ⟨Below.refl _ _, fun j _ hj => by omega, fun i _ hi => by omega⟩⟩
  case round =>
    obtain ⟨s, rfl, hs, HI⟩ := hrel
    by_cases hlt : s < n
    · have hsx : s < ps.length := by rw [HN.out]; exact hlt
      obtain ⟨b, off, hx, hbl, c0, c1, c2⟩ := (HX.out.below HI.out.1) s hsx
      obtain ⟨z1, z2, z3⟩ := HOK.out _ (List.getElem_mem hsx)
      have q1 : (0 : Int) ≤ s := by omega
      have q2 : (s : Int) < n := by omega
      have HS := Lib.hid hsx
      have HMEM : Hid (ps[s] ∈ ps) := Lib.hid (List.getElem_mem hsx)
      have HLE : Hid (∀ j (hj : j < ps.length), j = s → ps[j] = ps[s]) := Lib.hid fun j hj e => by subst e; rfl
      generalize ps[s] = q at c0 c1 c2 z1 z2 z3 HMEM HLE
      obtain ⟨qt, qk, qv⟩ := q
      dsimp only at c0 c1 c2 z1 z2 z3
      have HE : Hid (okP ⟨qt, qk, qv⟩ = (wordB qt.data.toList && wordB qk.data.toList && decide (qv.size ≤ 200))) := Lib.hid rfl
      have HW1 : Hid (∀ W, Calls Tryz.prog 36 #[.string qt] W fun e w' => e = .returned (.bool (wordB qt.data.toList)) ∧ W = w') := Lib.hid fun W => refIsWord_any qt W (by unfold maxLen; omega)
      have HW2 : Hid (∀ W, Calls Tryz.prog 36 #[.string qk] W fun e w' => e = .returned (.bool (wordB qk.data.toList)) ∧ W = w') := Lib.hid fun W => refIsWord_any qk W (by unfold maxLen; omega)
      have HNO : Hid (okP ⟨qt, qk, qv⟩ = false → pairsB ps = false) := Lib.hid fun h => okP_not h HMEM.out
      have hsz : decide ((200 : Int) < qv.size) = !decide (qv.size ≤ 200) := by
        rw [Bool.eq_iff_iff]; simp; omega
      clear hsx z1 z2 z3 HMEM
      subst hx
      generalize wordB qt.data.toList = a at HE HW1
      generalize wordB qk.data.toList = a2 at HE HW2
      generalize decide (qv.size ≤ 200) = a3 at HE hsz
      have HBD := Lib.hid (HI.out.1.trans ((below_d wr).mono HI.out.1.size))
      by_cases hall : (a && a2 && a3) = true
      · rw [Bool.and_eq_true, Bool.and_eq_true] at hall
        obtain ⟨⟨rfl, rfl⟩, rfl⟩ := hall
        rw [Bool.not_true] at hsz
        by_cases h0 : s = 0
        · subst h0
          rw [Nat.zero_mul, Nat.add_zero] at c0 c1 c2
          have H2 : Hid (Below w.heap.size w wr.drew ∧ (∀ j (hj : j < ps.length), j < 0 + 1 → okP ps[j] = true) ∧ ∀ i (hi : i + 1 < ps.length), i + 1 < 0 + 1 → lessP (ps[i]'(by omega)) ps[i + 1] = true) := Lib.hid ⟨HBD.out, fun j hj hj2 => by rw [HLE.out j hj (by omega)]; exact HE.out, fun i _ hi => by omega⟩
          clear HI HE HNO HLE HX HOK HS hbl
          go_wp2_with (go_at_call 36; first | ((with_reducible refine (HW1.out _).mono ?_); rintro e w' ⟨rfl, rfl⟩) | ((with_reducible refine (HW2.out _).mono ?_); rintro e w' ⟨rfl, rfl⟩))
          go_region
          all_goals
            go_wp2
            go_roundw
            case rel => exact ⟨1, by go_num, by omega, H2⟩
            case measure => simp [intOf]; omega
        · obtain ⟨t, rfl⟩ : ∃ t, s = t + 1 := ⟨s - 1, by omega⟩
          have htx : t < ps.length := by have := HS.out; omega
          obtain ⟨b', off', hx', _, d0, d1, d2⟩ := (HX.out.below HI.out.1) t htx
          obtain ⟨rfl, rfl⟩ : b = b' ∧ off = off' := by simpa using hx'
          have HLT : Hid (∀ j (hj : j < ps.length), j = t → ps[j] = ps[t]) := Lib.hid fun j hj e => by subst e; rfl
          generalize ps[t] = p at d0 d1 d2 HLT
          obtain ⟨pt, pk, pv⟩ := p
          dsimp only at d0 d1 d2
          obtain ⟨B, hB⟩ : ∃ B, lessP ⟨pt, pk, pv⟩ ⟨qt, qk, qv⟩ = B := ⟨_, rfl⟩
          have HLC : Hid (∀ W, Calls Tryz.prog 66 #[.agg #[.string pt, .string pk, .string pv], .agg #[.string qt, .string qk, .string qv]] W fun e w' => e = .returned (.bool B) ∧ Below W.heap.size W w') := Lib.hid fun W => by rw [← hB]; exact refLess_any _ _ W
          have H2 : Hid (B = true → (∀ j (hj : j < ps.length), j < t + 1 + 1 → okP ps[j] = true) ∧ ∀ i (hi : i + 1 < ps.length), i + 1 < t + 1 + 1 → lessP (ps[i]'(by omega)) ps[i + 1] = true) := Lib.hid fun hb => ⟨fun j hj hj2 => by
              rcases Nat.lt_or_ge j (t + 1) with h | h
              · exact HI.out.2.1 j hj h
              · rw [HLE.out j hj (by omega)]; exact HE.out, fun i hi hi2 => by
              rcases Nat.lt_or_ge (i + 1) (t + 1) with h | h
              · exact HI.out.2.2 i hi h
              · rw [HLE.out (i + 1) hi (by omega), HLT.out i (by omega) (by omega), hB, hb]⟩
          have H3 : Hid (B = false → pairsB ps = false) := Lib.hid fun hb => pairs_less (i := t) HS.out (by rw [HLE.out (t + 1) HS.out rfl, HLT.out t htx rfl, hB, hb])
          have HC6 : Hid (∀ W, Below wr.heap.size wr W → W.cell? ⟨b, off + (t + 1) * 3, none⟩ = some (.string qt) ∧ W.cell? ⟨b, off + (t + 1) * 3 + 1, none⟩ = some (.string qk) ∧ W.cell? ⟨b, off + (t + 1) * 3 + 2, none⟩ = some (.string qv) ∧ W.cell? ⟨b, off + t * 3, none⟩ = some (.string pt) ∧ W.cell? ⟨b, off + t * 3 + 1, none⟩ = some (.string pk) ∧ W.cell? ⟨b, off + t * 3 + 2, none⟩ = some (.string pv)) := Lib.hid fun W hb => ⟨(hb.cell (lt_of_cell c0)).trans c0, (hb.cell (lt_of_cell c1)).trans c1, (hb.cell (lt_of_cell c2)).trans c2, (hb.cell (lt_of_cell d0)).trans d0, (hb.cell (lt_of_cell d1)).trans d1, (hb.cell (lt_of_cell d2)).trans d2⟩
          have HIB := Lib.hid HI.out.1
          have w5 : IntKind.i64.wrap (((t + 1 : Nat) : Int) - 1) = (t : Int) := by rw [IntWalk.i64_in _ (by omega)]; omega
          have w6 : IntKind.i64.wrap ((t : Int) + 1 - 1) = (t : Int) := by rw [IntWalk.i64_in _ (by omega)]; omega
          have q3 : (0 : Int) < ((t + 1 : Nat) : Int) := by omega
          have q4 : (0 : Int) ≤ t := by omega
          have q5 : (t : Int) < n := by omega
          have q7 : (0 : Int) ≤ (t : Int) + 1 := by omega
          have q8 : (t : Int) + 1 < n := by omega
          have w7 : IntKind.i64.wrap (t : Int) = (t : Int) := IntWalk.i64_in _ (by omega)
          clear hB HI HE HNO htx HLT HLE hx' h0
          cases B with
          | true =>
            have H2' := Lib.hid (H2.out rfl)
            clear H2 H3
            go_wp2_with (go_at_call 36; first | ((with_reducible refine (HW1.out _).mono ?_); rintro e w' ⟨rfl, rfl⟩) | ((with_reducible refine (HW2.out _).mono ?_); rintro e w' ⟨rfl, rfl⟩))
            go_region_held3 (fun W => W.cell? ⟨b, off + (t + 1) * 3, none⟩ = some (.string qt) ∧ W.cell? ⟨b, off + (t + 1) * 3 + 1, none⟩ = some (.string qk) ∧ W.cell? ⟨b, off + (t + 1) * 3 + 2, none⟩ = some (.string qv) ∧ W.cell? ⟨b, off + t * 3, none⟩ = some (.string pt) ∧ W.cell? ⟨b, off + t * 3 + 1, none⟩ = some (.string pk) ∧ W.cell? ⟨b, off + t * 3 + 2, none⟩ = some (.string pv)) (first | exact ⟨c0, c1, c2, d0, d1, d2⟩ | exact z6) (first | (go_at_call 66; (with_reducible refine (HLC.out _).mono ?_); rintro e w2 ⟨rfl, hb2⟩; have z6 := HC6.out w2 ((below_d wr).trans (hb2.mono (Nat.le_refl _)))))
            all_goals
              have HB2 := Lib.hid (HIB.out.trans (((below_d wr).trans (hb2.mono (Nat.le_refl _))).mono HIB.out.size))
              clear hb2 HLC HC6 z6 c0 c1 c2 d0 d1 d2
              go_wp2
              go_roundw
              case rel => exact ⟨t + 1 + 1, by go_num, by omega, Lib.hid ⟨HB2.out, H2'.out.1, H2'.out.2⟩⟩
              case measure => simp [intOf]; omega
          | false =>
            have H3' := Lib.hid (H3.out rfl)
            clear H2 H3
            go_wp2_with (go_at_call 36; first | ((with_reducible refine (HW1.out _).mono ?_); rintro e w' ⟨rfl, rfl⟩) | ((with_reducible refine (HW2.out _).mono ?_); rintro e w' ⟨rfl, rfl⟩))
            go_region_held3 (fun W => W.cell? ⟨b, off + (t + 1) * 3, none⟩ = some (.string qt) ∧ W.cell? ⟨b, off + (t + 1) * 3 + 1, none⟩ = some (.string qk) ∧ W.cell? ⟨b, off + (t + 1) * 3 + 2, none⟩ = some (.string qv) ∧ W.cell? ⟨b, off + t * 3, none⟩ = some (.string pt) ∧ W.cell? ⟨b, off + t * 3 + 1, none⟩ = some (.string pk) ∧ W.cell? ⟨b, off + t * 3 + 2, none⟩ = some (.string pv)) (first | exact ⟨c0, c1, c2, d0, d1, d2⟩ | exact z6) (first | (go_at_call 66; (with_reducible refine (HLC.out _).mono ?_); rintro e w2 ⟨rfl, hb2⟩; have z6 := HC6.out w2 ((below_d wr).trans (hb2.mono (Nat.le_refl _)))))
            all_goals
              have HB2 := Lib.hid (HIB.out.trans (((below_d wr).trans (hb2.mono (Nat.le_refl _))).mono HIB.out.size))
              clear hb2 HLC HC6 z6 c0 c1 c2 d0 d1 d2
              go_wp2
              go_ret
              exact ⟨by rw [H3'.out]; rfl, HB2.out⟩
      · have H3' := Lib.hid (HNO.out (by rw [HE.out]; simpa using hall))
        have hcase : (a = false) ∨ (a = true ∧ a2 = false) ∨ (a = true ∧ a2 = true ∧ a3 = false) := by
          cases a <;> cases a2 <;> cases a3 <;> simp at hall ⊢
        clear HI HE HNO HLE
        rcases hcase with rfl | ⟨rfl, rfl⟩ | ⟨rfl, rfl, rfl⟩
        all_goals
          clear hall
          go_wp2_with (go_at_call 36; first | ((with_reducible refine (HW1.out _).mono ?_); rintro e w' ⟨rfl, rfl⟩) | ((with_reducible refine (HW2.out _).mono ?_); rintro e w' ⟨rfl, rfl⟩))
          go_region
          all_goals
            go_wp2
            go_ret
            exact ⟨by rw [H3'.out]; rfl, HBD.out⟩
    · have HF : Hid (pairsB ps = true) := Lib.hid (pairs_yes (by have := HN.out; omega) (fun j hj => HI.out.2.1 j hj (by have := HN.out; omega)) (fun i hi => HI.out.2.2 i hi (by have := HN.out; omega)))
      have HB2 := Lib.hid HI.out.1
      have q2 : ¬ (s : Int) < n := by omega
      clear HI
      go_wp2
      go_ret
      exact ⟨by rw [HF.out]; rfl, HB2.out⟩
end Go.Proofs.YticcdighfojjjaaGreatDoor
