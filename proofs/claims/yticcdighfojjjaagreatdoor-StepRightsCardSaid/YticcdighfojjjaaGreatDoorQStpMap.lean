/-
  StpChg, StpMap.
-/
import Derived.Test.YticcdighfojjjaaGreatDoorQStpPut
import Derived.Test.YticcdighfojjjaaGreatDoorQStpRef5
namespace Go.Proofs.YticcdighfojjjaaGreatDoor
open Go.ChangeShapes Go.WideShapes Go.ChangeAt Go.RowKit

theorem box_kept {B : Nat} {w w' : World} {v : Value} {ps : List PairV} (h : RowP B w v ps) (s : StepV) (hg : (w.alloc (sO s)).grownBy w' v.ownBlock) : ∀ r u, #[Value.int .i64 s.kind, .string s.table, .string s.key, .string s.to, .string s.text][r]? = some u → w'.cell? ⟨w.heap.size, r, none⟩ = some u := fun r u hu => by
  rw [World.cell?_of_block (a := ⟨w.heap.size, r, none⟩) (hg.block w.heap.size (by simp) (fun e => own_lt h (Nat.le_refl _) e.symm))]
  exact box_cell w s r u hu
theorem copyQ_len (ps : List PairV) (s : StepV) : (copyQ ps s).1.length ≤ ps.length + 1 := by
  rcases copy_cases ps s with ⟨_, e⟩ | ⟨_, _, e⟩ | ⟨_, _, _, e⟩ <;> rw [e] <;> simp
set_option maxHeartbeats 800000 in
set_option maxRecDepth 100000 in
theorem prenamed_any (ps : List PairV) (B : Nat) (v : Value) (s : StepV) (w : World) (h : RowP B w v ps) (hB : B ≤ w.heap.size) (hl : ps.length ≤ 100000000) :
    Calls Tryz.prog 57 #[v, sV s] w (ChgRes B w v (renQ ps s)) := by
  have HC := Lib.hid (pcopied_any ps B v s (w.alloc (sO s)) (h.alloc _) (Nat.le_trans hB (by simp)) (by omega))
  have HBX : Hid (∀ w', (w.alloc (sO s)).grownBy w' v.ownBlock → ∀ r u, #[Value.int .i64 s.kind, .string s.table, .string s.key, .string s.to, .string s.text][r]? = some u → w'.cell? ⟨w.heap.size, r, none⟩ = some u) := Lib.hid fun w' hg => box_kept h s hg
  have HGW : Hid (∀ w', (w.alloc (sO s)).grownBy w' v.ownBlock → w.grownBy w' v.ownBlock) := Lib.hid fun w' hg => grown_trans (World.grownBy_alloc _ _ _) hg
  have HNE : Hid (∀ r, v.ownBlock ≠ some (w.heap.size + r)) := Lib.hid fun r => own_lt h (Nat.le_add_right _ _)
  have HD : Hid (∀ W v' qs, RowP B W v' qs → qs.length ≤ 2147483647 → Calls Tryz.prog 56 #[v', sV s] W fun e w' => ∃ v'', e = .returned v'' ∧ RowP B w' v'' (dropP qs s.table s.key) ∧ W.grownBy w' v'.ownBlock ∧ v''.ownBlock = v'.ownBlock) := Lib.hid fun W v' qs h hl => pdropped_any qs B v' s W h hl
  have HLN := Lib.hid (copyQ_len ps s)
  unfold renQ
  obtain ⟨kd, tb, ky, to, tx⟩ := s
  unfold sO at HC HBX HGW
  unfold sV at HC HD ⊢
  dsimp only at HC HBX HGW HD ⊢
  clear h hB
  generalize copyQ ps ⟨kd, tb, ky, to, tx⟩ = r at HC HLN ⊢
  obtain ⟨r1, r2⟩ := r
  dsimp only at HC HLN ⊢
  by_cases h0 : r2 = 0
  · subst h0
    rw [if_neg (by simp)]
    go_enter Tryz.func57, Tryz.ntmps57
    go_wp2_with (first
      | (go_at_call 60; refine HC.out.mono ?_; rintro e w2 ⟨v', rfl, h1, h2, h3⟩; have d0 := HBX.out _ h2 0 _ rfl; have d1 := HBX.out _ h2 1 _ rfl; have d2 := HBX.out _ h2 2 _ rfl; have d3 := HBX.out _ h2 3 _ rfl; have d4 := HBX.out _ h2 4 _ rfl; have H1 := Lib.hid (And.intro h1 (And.intro (HGW.out _ h2) h3)); clear h1 h2 h3)
      | (go_at_call 56; refine (HD.out _ _ _ H1.out.1 (by have := HLN.out; omega)).mono ?_; rintro e w3 ⟨v'', rfl, h1, h2, h3⟩; have H2 := Lib.hid (And.intro h1 (And.intro h2 h3)); clear h1 h2 h3))
    go_ret2
    refine ⟨_, rfl, H2.out.1, ?_, fun y hy => ?_⟩
    · have hg := H1.out.2.1
      have hk := H2.out.2.1
      refine ⟨hk.os.trans hg.os, hk.tape.trans hg.tape, hk.output.trans hg.output, Nat.le_trans hg.size hk.size, fun j hj hn => (hk.block j (Nat.lt_of_lt_of_le hj hg.size) fun e => ?_).trans (hg.block j hj hn)⟩
      rcases H1.out.2.2 j e.symm with h | h
      · exact hn h.symm
      · simp at h; omega
    · have hy := H2.out.2.2.symm.trans hy
      rcases H1.out.2.2 y hy with h | h
      · exact .inl h
      · exact .inr (by simp at h; omega)
  · rw [if_pos h0]
    have q1 : (r2 == 0) = false := beq_eq_false_iff_ne.2 h0
    go_enter Tryz.func57, Tryz.ntmps57
    go_wp2_with (go_at_call 60; refine HC.out.mono ?_; rintro e w2 ⟨v', rfl, h1, h2, h3⟩; have H1 := Lib.hid (HGW.out _ h2); clear h1 h2 h3)
    go_ret2
    exact ⟨_, rfl, RowP.nil_ _ _, H1.out, fun y hy => by simp [Value.ownBlock] at hy⟩
theorem grown_drew {w w' : World} {r : Option Nat} (h : w.grownBy w' r) : w.grownBy w'.drew r := ⟨h.os, h.tape, h.output, h.size, h.block⟩
theorem RowP.drew {B : Nat} {w : World} {v : Value} {ps : List PairV} (h : RowP B w v ps) : RowP B w.drew v ps := h
/-! retabled -/
def mixT (t to : ByteArray) (ps : List PairV) (i : Nat) : List PairV := (ps.take i).map (reT t to) ++ ps.drop i
theorem mixT_len (t to : ByteArray) (ps : List PairV) (i : Nat) : (mixT t to ps i).length = ps.length := by unfold mixT; simp; omega
theorem mixT_zero (t to : ByteArray) (ps : List PairV) : mixT t to ps 0 = ps := by simp [mixT]
theorem mixT_all (t to : ByteArray) (ps : List PairV) : mixT t to ps ps.length = ps.map (reT t to) := by simp [mixT]
theorem mixT_at {t to : ByteArray} {ps : List PairV} {i : Nat} (hi : i < ps.length) : (mixT t to ps i)[i]'(by rw [mixT_len]; exact hi) = ps[i] := by
  unfold mixT
  rw [List.getElem_append_right (by simp; omega)]
  simp [Nat.min_eq_left (Nat.le_of_lt hi)]
theorem mixT_set {t to : ByteArray} {ps : List PairV} {i : Nat} (hi : i < ps.length) : (mixT t to ps i).set i (reT t to ps[i]) = mixT t to ps (i + 1) := by
  unfold mixT
  have hl : ((ps.take i).map (reT t to)).length = i := by simp; omega
  rw [List.set_append_right _ _ (by omega), hl, Nat.sub_self, List.drop_eq_getElem_cons hi, List.set_cons_zero, List.take_succ_eq_append_getElem hi, List.map_append, List.append_assoc]
  rfl
theorem mixT_same {t to : ByteArray} {ps : List PairV} {i : Nat} (hi : i < ps.length) (e : reT t to ps[i] = ps[i]) : mixT t to ps i = mixT t to ps (i + 1) := by
  rw [← mixT_set hi, e]
  have := mixT_at (t := t) (to := to) hi
  rw [← this]
  exact (List.set_getElem_self _).symm
set_option maxHeartbeats 1600000 in
set_option maxRecDepth 100000 in
theorem pretabled_any (ps : List PairV) (B : Nat) (v : Value) (s : StepV) (w : World) (h : RowP B w v ps) (hl : ps.length ≤ 100000000) :
    Calls Tryz.prog 58 #[v, sV s] w (ChgRes B w v (tabQ ps s)) := by
  obtain ⟨x, c, hv, hpr⟩ := h.prs
  have hbw := below_one w (sO s)
  have HB0 : Hid (∀ w', Below (w.alloc (sO s)).heap.size (w.alloc (sO s)) w' → (w.alloc (sO s)).grownBy w' v.ownBlock) := Lib.hid fun w' hb => grown_below hb _
  have HBX : Hid (∀ w', (w.alloc (sO s)).grownBy w' v.ownBlock → w'.cell? ⟨w.heap.size, 1, none⟩ = some (.string s.table) ∧ w'.cell? ⟨w.heap.size, 3, none⟩ = some (.string s.to)) := Lib.hid fun w' hg => ⟨box_kept h s hg 1 _ rfl, box_kept h s hg 3 _ rfl⟩
  have HPR : Hid (∀ w', Below (w.alloc (sO s)).heap.size (w.alloc (sO s)) w' → RowP B w' v ps ∧ PrsAt w' x ps ∧ w.grownBy w' v.ownBlock) := Lib.hid fun w' hb => ⟨h.below (hbw.trans (hb.mono hbw.size)), hpr.below (hbw.trans (hb.mono hbw.size)), grown_below (hbw.trans (hb.mono hbw.size)) _⟩
  have HH : Hid (∀ W t, PrsAt W x ps → Calls Tryz.prog 82 #[v, .string t] W fun e w' => e = .returned (.bool (anyT ps t)) ∧ Below W.heap.size W w') := Lib.hid fun W t hp => by rw [hv]; exact phas_any ps x ps.length c t W hp rfl (by omega)
  have HX0 := Lib.hid (hpr.below hbw)
  have HG0 : Hid (∀ w', (w.alloc (sO s)).grownBy w' v.ownBlock → w.grownBy w' v.ownBlock) := Lib.hid fun w' hg => grown_trans (World.grownBy_alloc _ _ _) hg
  unfold tabQ
  obtain ⟨kd, tb, ky, to, tx⟩ := s
  unfold sO at HB0 HBX HPR HX0 HG0
  unfold sV
  dsimp only at HB0 HBX HPR HX0 HG0 ⊢
  have HSH := Lib.hid h.shape
  clear h hpr hbw hv
  cases h1 : anyT ps tb with
  | false =>
    rw [if_pos rfl]
    have HH1 : Hid (∀ W, PrsAt W x ps → Calls Tryz.prog 82 #[v, .string tb] W fun e w' => e = .returned (.bool false) ∧ Below W.heap.size W w') := Lib.hid fun W hp => by rw [← h1]; exact HH.out W tb hp
    clear h1 HH
    go_enter Tryz.func58, Tryz.ntmps58
    go_wp2_with (go_at_call 82; refine (HH1.out _ HX0.out).mono ?_; rintro e w2 ⟨rfl, hb⟩; have H2 := Lib.hid (HPR.out _ hb); clear hb)
    go_ret2
    exact ⟨_, rfl, H2.out.1, H2.out.2.2, fun y hy => .inl hy⟩
  | true =>
    rw [if_neg (by simp)]
    have HH1 : Hid (∀ W, PrsAt W x ps → Calls Tryz.prog 82 #[v, .string tb] W fun e w' => e = .returned (.bool true) ∧ Below W.heap.size W w') := Lib.hid fun W hp => by rw [← h1]; exact HH.out W tb hp
    have HH2 : Hid (∀ W, PrsAt W x ps → Calls Tryz.prog 82 #[v, .string to] W fun e w' => e = .returned (.bool (anyT ps to)) ∧ Below W.heap.size W w') := Lib.hid fun W hp => HH.out W to hp
    clear h1 HH
    cases h2 : anyT ps to with
    | true =>
      rw [h2] at HH2
      rw [if_pos rfl]
      clear h2
      go_enter Tryz.func58, Tryz.ntmps58
      go_wp2_with (go_at_call 82; first
        | (refine (HH1.out _ HX0.out).mono ?_; rintro e w2 ⟨rfl, hb⟩; obtain ⟨d1, d3⟩ := HBX.out _ (HB0.out _ hb); have H2 := Lib.hid (HPR.out _ hb); have HBD := Lib.hid hb; clear hb)
        | (refine (HH2.out _ H2.out.2.1).mono ?_; rintro e w3 ⟨rfl, hb⟩; have H3 := Lib.hid (HPR.out _ (HBD.out.trans (hb.mono HBD.out.size))); clear hb))
      go_ret2
      exact ⟨_, rfl, RowP.nil_ _ _, H3.out.2.2, fun y hy => by simp [Value.ownBlock] at hy⟩
    | false =>
      rw [h2] at HH2
      rw [if_neg (by simp)]
      clear h2
      have HALL : Hid (mixT tb to ps ps.length = ps.map (reT tb to)) := Lib.hid (mixT_all tb to ps)
      generalize ps.map (reT tb to) = R at HALL ⊢
      rcases HSH.out with ⟨rfl, rfl⟩ | ⟨g, cap, rfl, hcap, hBg, hgl⟩
      · have hr : R = [] := by rw [← HALL.out]; rfl
        subst hr
        clear HALL HSH
        go_enter Tryz.func58, Tryz.ntmps58
        go_wp2_with (go_at_call 82; first
          | (refine (HH1.out _ HX0.out).mono ?_; rintro e w2 ⟨rfl, hb⟩; obtain ⟨d1, d3⟩ := HBX.out _ (HB0.out _ hb); have H2 := Lib.hid (HPR.out _ hb); have HBD := Lib.hid hb; clear hb)
          | (refine (HH2.out _ H2.out.2.1).mono ?_; rintro e w3 ⟨rfl, hb⟩; have H3 := Lib.hid (HPR.out _ (HBD.out.trans (hb.mono HBD.out.size))); clear hb))
        go_loopw [6, 19] (fun _ i wr => i = .int .i64 0 ∧ wr = w3) (fun _ _ _ => 0)
        case atStart => exact ⟨rfl, rfl⟩
        case round =>
          obtain ⟨rfl, rfl⟩ := hrel
          go_wp2
          go_ret2
          exact ⟨_, rfl, H3.out.1, H3.out.2.2, fun y hy => .inl hy⟩
      clear HSH
      have HN : Hid (∀ i, (mixT tb to ps i).length = ps.length) := Lib.hid (mixT_len tb to ps)
      have HMA : Hid (∀ i (hi : i < ps.length), (mixT tb to ps i)[i]'(by rw [mixT_len]; exact hi) = ps[i]) := Lib.hid fun i hi => mixT_at hi
      have HZ : Hid (mixT tb to ps 0 = ps) := Lib.hid (mixT_zero tb to ps)
      go_enter Tryz.func58, Tryz.ntmps58
      go_wp2_with (go_at_call 82; first
        | (refine (HH1.out _ HX0.out).mono ?_; rintro e w2 ⟨rfl, hb⟩; obtain ⟨d1, d3⟩ := HBX.out _ (HB0.out _ hb); have H2 := Lib.hid (HPR.out _ hb); have HBD := Lib.hid hb; clear hb)
        | (refine (HH2.out _ H2.out.2.1).mono ?_; rintro e w3 ⟨rfl, hb⟩; have H3 := Lib.hid (HPR.out _ (HBD.out.trans (hb.mono HBD.out.size))); have HG3 := Lib.hid (HB0.out _ (HBD.out.trans (hb.mono HBD.out.size))); clear hb))
      clear HH1 HH2 HX0 H2 HBD d1 d3
      go_loopw [6, 19] (fun _ i wr => ∃ k : Nat, i = .int .i64 k ∧ k ≤ ps.length ∧ Hid (RowP B wr (.slice (some ⟨g, 0, none⟩) ps.length cap) (mixT tb to ps k) ∧ (w.alloc (.cells #[.int .i64 kd, .string tb, .string ky, .string to, .string tx] 35)).grownBy wr (some g))) (fun _ i _ => ps.length - (intOf i).toNat)
      case atStart => exact ⟨0, rfl, by omega, Lib.hid ⟨by rw [HZ.out]; exact H3.out.1, HG3.out⟩⟩
      case round =>
        clear H3 HG3
        obtain ⟨k, rfl, hk, HI⟩ := hrel
        obtain ⟨hR, hG⟩ := HI.out
        by_cases hlt : k < ps.length
        · have hml : k < (mixT tb to ps k).length := by rw [HN.out]; exact hlt
          have hR' : RowP B wr (.slice (some ⟨g, 0, none⟩) (mixT tb to ps k).length cap) (mixT tb to ps k) := by rw [HN.out]; exact hR
          obtain ⟨c0, _, _⟩ := hR'.cells hml
          have hz := hR'.free (k * 3)
          rw [HMA.out k hlt] at c0
          have q1 : (0 : Int) ≤ k := by omega
          have q2 : (k : Int) < ps.length := by omega
          obtain ⟨d1, d3⟩ := HBX.out _ hG
          have HTB : Hid (RowP B (wr.setCell ⟨g, k * 3, none⟩ (.string to)) (.slice (some ⟨g, 0, none⟩) ps.length cap) ((mixT tb to ps k).set k ⟨to, ps[k].key, ps[k].value⟩) ∧ wr.grownBy (wr.setCell ⟨g, k * 3, none⟩ (.string to)) (some g)) := Lib.hid (by
            have := hR'.table hml to
            rw [HN.out, HMA.out k hlt] at this
            exact this)
          have HSET : Hid ((ps[k].table.toList == tb.toList) = true → (mixT tb to ps k).set k ⟨to, ps[k].key, ps[k].value⟩ = mixT tb to ps (k + 1)) := Lib.hid fun e => by
            rw [← mixT_set hlt]
            congr 1
            unfold reT
            rw [show eqB ps[k].table tb = true from e]; rfl
          have HSAME : Hid ((ps[k].table.toList == tb.toList) = false → mixT tb to ps k = mixT tb to ps (k + 1)) := Lib.hid fun e => mixT_same hlt (by
            unfold reT
            rw [show eqB ps[k].table tb = false from e]; rfl)
          generalize ps[k].table = qt at c0 HSET HSAME
          clear hR hR' hG
          cases he : (qt.toList == tb.toList) with
          | true =>
            go_wp2
            go_region
            all_goals
              go_wp2
              go_roundw
              case rel => exact ⟨k + 1, by go_num, by omega, Lib.hid ⟨by rw [← HSET.out he]; exact HTB.out.1, grown_drew (grown_trans HI.out.2 HTB.out.2)⟩⟩
              case measure => simp [intOf]; omega
          | false =>
            go_wp2
            go_region
            all_goals
              go_wp2
              go_roundw
              case rel => exact ⟨k + 1, by go_num, by omega, Lib.hid ⟨by rw [← HSAME.out he]; exact HI.out.1, grown_drew HI.out.2⟩⟩
              case measure => simp [intOf]; omega
        · obtain rfl : k = ps.length := by omega
          clear hR hG
          go_wp2
          go_ret2
          exact ⟨_, rfl, by rw [← HALL.out]; exact HI.out.1, HG0.out _ HI.out.2, fun y hy => .inl hy⟩
end Go.Proofs.YticcdighfojjjaaGreatDoor

namespace Go.Proofs.YticcdighfojjjaaGreatDoor
open Go.ChangeShapes Go.WideShapes Go.ChangeAt Go.RowKit

/-- The first k values are made, the others are as they were. -/
structure MapQ (f t : ByteArray) (ps : List PairV) (R : List PairV × Int) (D : List PairV) (k : Nat) : Prop where
  len : D.length = ps.length
  two : ∃ A : List PairV, A.length = k ∧ D = A ++ ps.drop k ∧ glueP A (mapP f t (ps.drop k)) = R
section
variable {f t : ByteArray} {ps D : List PairV} {R : List PairV × Int} {k : Nat}
theorem MapQ.start (f t : ByteArray) (ps : List PairV) : MapQ f t ps (mapP f t ps) ps 0 := by
  refine ⟨rfl, [], rfl, rfl, ?_⟩
  rw [List.drop_zero]
  unfold glueP
  by_cases h : (mapP f t ps).2 = 0
  · rw [if_pos h, List.nil_append, ← h]
  · rw [if_neg h]
    have : ∀ l : List PairV, (mapP f t l).2 ≠ 0 → (mapP f t l).1 = [] := by
      intro l hl
      cases l with
      | nil => exact absurd rfl hl
      | cons q r =>
        unfold mapP at hl ⊢
        repeat' split
        all_goals first | rfl | (simp_all)
    rw [← this ps h]
theorem MapQ.at_ (h : MapQ f t ps R D k) (hk : k < ps.length) : D[k]'(by rw [h.len]; exact hk) = ps[k] := by
  obtain ⟨A, hA, hD, _⟩ := h.two
  subst hA
  simp only [hD]
  rw [List.getElem_append_right (Nat.le_refl _)]
  simp
theorem MapQ.no (h : MapQ f t ps R D k) (hk : k < ps.length) (hq : eqB ps[k].table t = false) : MapQ f t ps R D (k + 1) := by
  obtain ⟨A, hA, hD, hR⟩ := h.two
  rw [drop_pair hk] at hD hR
  refine ⟨h.len, A ++ [ps[k]], by simp [hA], by rw [hD]; simp, ?_⟩
  rw [← map_no A hq]; exact hR
theorem MapQ.yes (h : MapQ f t ps R D k) (hk : k < ps.length) (hq : eqB ps[k].table t = true) (hc : (callV f ps[k].value).2 = 0) : MapQ f t ps R (D.set k ⟨ps[k].table, ps[k].key, (callV f ps[k].value).1⟩) (k + 1) := by
  obtain ⟨A, hA, hD, hR⟩ := h.two
  rw [drop_pair hk] at hD hR
  refine ⟨by rw [List.length_set]; exact h.len, A ++ [⟨ps[k].table, ps[k].key, (callV f ps[k].value).1⟩], by simp [hA], ?_, ?_⟩
  · rw [hD, List.set_append_right _ _ (by omega), hA, Nat.sub_self, List.set_cons_zero, List.append_assoc]; rfl
  · rw [← map_yes A hq hc]; exact hR
theorem MapQ.bad (h : MapQ f t ps R D k) (hk : k < ps.length) (hq : eqB ps[k].table t = true) (hc : (callV f ps[k].value).2 ≠ 0) : R = ([], (callV f ps[k].value).2) := by
  obtain ⟨A, hA, hD, hR⟩ := h.two
  rw [drop_pair hk, map_bad A hq hc] at hR
  exact hR.symm
theorem MapQ.done (h : MapQ f t ps R D ps.length) : R = (D, 0) := by
  obtain ⟨A, hA, hD, hR⟩ := h.two
  rw [List.drop_length] at hD hR
  rw [← hR, hD, List.append_nil]
  unfold glueP mapP
  rw [if_pos rfl, List.append_nil]
end
set_option maxHeartbeats 3200000 in
set_option maxRecDepth 100000 in
theorem pmapped_any (ps : List PairV) (B : Nat) (v : Value) (s : StepV) (w : World) (h : RowP B w v ps) (hl : ps.length ≤ 100000000) (ht : s.text.size ≤ 2147483647) (hok : PrsOk ps) (hS : ∀ W, w.grownBy W v.ownBlock → StdS W) :
    Calls Tryz.prog 59 #[v, sV s] w (ChgRes B w v (mapP s.text s.table ps)) := by
  have HBX : Hid (∀ w', (w.alloc (sO s)).grownBy w' v.ownBlock → w'.cell? ⟨w.heap.size, 1, none⟩ = some (.string s.table) ∧ w'.cell? ⟨w.heap.size, 4, none⟩ = some (.string s.text)) := Lib.hid fun w' hg => ⟨box_kept h s hg 1 _ rfl, box_kept h s hg 4 _ rfl⟩
  have HG0 : Hid (∀ w', (w.alloc (sO s)).grownBy w' v.ownBlock → w.grownBy w' v.ownBlock) := Lib.hid fun w' hg => grown_trans (World.grownBy_alloc _ _ _) hg
  have HC : Hid (∀ W k (hk : k < ps.length), w.grownBy W v.ownBlock → Calls Tryz.prog 14 #[.string s.text, .string ps[k].value] W fun e w' => e = .returned (.tuple #[.string (callV s.text ps[k].value).1, .int .i64 (callV s.text ps[k].value).2]) ∧ Below W.heap.size W w') := Lib.hid fun W k hk hg => pcall_any s.text ps[k].value W ht (hok _ (List.getElem_mem hk)).2.2 (hS W hg)
  have HST := Lib.hid (MapQ.start s.text s.table ps)
  have HDONE : Hid (∀ D, MapQ s.text s.table ps (mapP s.text s.table ps) D ps.length → mapP s.text s.table ps = (D, 0)) := Lib.hid fun D h => h.done
  have HSH := Lib.hid h.shape
  have HR0 := Lib.hid (RowP.alloc h (sO s))
  obtain ⟨kd, tb, ky, to, tx⟩ := s
  unfold sO at HBX HG0 HR0
  unfold sV
  dsimp only at HBX HG0 HC HST HDONE HR0 ⊢
  clear h ht hok hS
  generalize mapP tx tb ps = R at HST HDONE ⊢
  rcases HSH.out with ⟨rfl, rfl⟩ | ⟨g, cap, rfl, hcap, hBg, hgl⟩
  · obtain rfl := HDONE.out [] HST.out
    clear HSH HDONE HST
    go_enter Tryz.func59, Tryz.ntmps59
    go_wp2
    go_loopw [6, 7, 8, 11] (fun _ _ _ i wr => i = .int .i64 0 ∧ wr = w.alloc (.cells #[.int .i64 kd, .string tb, .string ky, .string to, .string tx] 35)) (fun _ _ _ _ _ => 0)
    case atStart => exact ⟨rfl, rfl⟩
    case round =>
      obtain ⟨rfl, rfl⟩ := hrel
      go_wp2
      go_ret2
      exact ⟨_, rfl, RowP.nil_ _ _, World.grownBy_alloc _ _ _, fun y hy => .inl hy⟩
  clear HSH
  go_enter Tryz.func59, Tryz.ntmps59
  go_wp2
  go_loopw [6, 7, 8, 11] (fun _ _ _ i wr => ∃ k : Nat, i = .int .i64 k ∧ k ≤ ps.length ∧ Hid (∃ D, MapQ tx tb ps R D k ∧ RowP B wr (.slice (some ⟨g, 0, none⟩) ps.length cap) D ∧ (w.alloc (.cells #[.int .i64 kd, .string tb, .string ky, .string to, .string tx] 35)).grownBy wr (some g))) (fun _ _ _ i _ => ps.length - (intOf i).toNat)
  case atStart => exact ⟨0, rfl, by omega, Lib.hid ⟨ps, HST.out, HR0.out, grown_refl _ _⟩⟩
  case round =>
    clear HR0 HST
    obtain ⟨k, rfl, hk, HI⟩ := hrel
    obtain ⟨D, hQ, hR, hG⟩ := HI.out
    by_cases hlt : k < ps.length
    · have hml : k < D.length := by rw [hQ.len]; exact hlt
      have hR' : RowP B wr (.slice (some ⟨g, 0, none⟩) D.length cap) D := by rw [hQ.len]; exact hR
      obtain ⟨c0, _, c2⟩ := hR'.cells hml
      have hz := hR'.free (k * 3 + 2)
      rw [hQ.at_ hlt] at c0 c2
      have q1 : (0 : Int) ≤ k := by omega
      have q2 : (k : Int) < ps.length := by omega
      obtain ⟨d1, d4⟩ := HBX.out _ hG
      have HNO : Hid ((ps[k].table.toList == tb.toList) = false → MapQ tx tb ps R D (k + 1)) := Lib.hid fun e => hQ.no hlt e
      have HYES : Hid ((ps[k].table.toList == tb.toList) = true → (callV tx ps[k].value).2 = 0 → MapQ tx tb ps R (D.set k ⟨ps[k].table, ps[k].key, (callV tx ps[k].value).1⟩) (k + 1)) := Lib.hid fun e h0 => hQ.yes hlt e h0
      have HBAD : Hid ((ps[k].table.toList == tb.toList) = true → (callV tx ps[k].value).2 ≠ 0 → R = ([], (callV tx ps[k].value).2)) := Lib.hid fun e h0 => hQ.bad hlt e h0
      have HCK := Lib.hid (fun W hg => HC.out W k hlt hg)
      have HPUT : Hid (∀ W x, RowP B W (.slice (some ⟨g, 0, none⟩) ps.length cap) D → RowP B (W.setCell ⟨g, k * 3 + 2, none⟩ (.string x)) (.slice (some ⟨g, 0, none⟩) ps.length cap) (D.set k ⟨ps[k].table, ps[k].key, x⟩) ∧ W.grownBy (W.setCell ⟨g, k * 3 + 2, none⟩ (.string x)) (some g)) := Lib.hid fun W x hr => by
        have h' : RowP B W (.slice (some ⟨g, 0, none⟩) D.length cap) D := by rw [hQ.len]; exact hr
        have := h'.value hml x
        rw [hQ.len, hQ.at_ hlt] at this
        exact this
      have HCELL : Hid (∀ W, Below wr.heap.size wr W → RowP B W (.slice (some ⟨g, 0, none⟩) ps.length cap) D ∧ W.cell? ⟨g, k * 3 + 2, none⟩ = some (.string ps[k].value) ∧ W.frozen? ⟨g, k * 3 + 2, none⟩ = false ∧ (w.alloc (.cells #[.int .i64 kd, .string tb, .string ky, .string to, .string tx] 35)).grownBy W (some g)) := Lib.hid fun W hb => by
        have hr := hR.below hb
        have h' : RowP B W (.slice (some ⟨g, 0, none⟩) D.length cap) D := by rw [hQ.len]; exact hr
        have hc := (h'.cells hml).2.2
        rw [hQ.at_ hlt] at hc
        exact ⟨hr, hc, h'.free _, grown_trans hG (grown_below hb _)⟩
      have HID : Hid (RowP B wr (.slice (some ⟨g, 0, none⟩) ps.length cap) D ∧ (w.alloc (.cells #[.int .i64 kd, .string tb, .string ky, .string to, .string tx] 35)).grownBy wr (some g)) := Lib.hid ⟨hR, hG⟩
      have HGB : Hid (∀ W, Below wr.heap.size wr W → w.grownBy W (some g)) := Lib.hid fun W hb => HG0.out _ (grown_trans hG (grown_below hb _))
      have HBC : Hid (∀ W, Below wr.heap.size wr W → W.cell? ⟨w.heap.size, 4, none⟩ = some (.string tx)) := Lib.hid fun W hb => (HBX.out _ (grown_trans hG (grown_below hb _))).2
      generalize ps[k] = q at c0 c2 HNO HYES HBAD HCK HPUT HCELL
      obtain ⟨qt, qk, qv⟩ := q
      dsimp only at c0 c2 HNO HYES HBAD HCK HPUT HCELL
      clear hQ hR hR' hG HI
      cases he : (qt.toList == tb.toList) with
      | false =>
        clear HYES HBAD HCK HPUT HCELL
        go_wp2
        go_region
        all_goals
          go_wp2
          go_roundw
          case rel => exact ⟨k + 1, by go_num, by omega, Lib.hid ⟨D, HNO.out he, HID.out.1, grown_drew HID.out.2⟩⟩
          case measure => simp [intOf]; omega
      | true =>
        rw [he] at HYES HBAD
        clear HNO
        generalize callV tx qv = r at HYES HBAD HCK
        obtain ⟨r1, r2⟩ := r
        dsimp only at HYES HBAD HCK
        have HSS : Hid (∀ W, Below wr.heap.size wr W → W.cell? ⟨w.heap.size, 4, none⟩ = some (.string tx) ∧ W.cell? ⟨g, k * 3 + 2, none⟩ = some (.string qv) ∧ Below wr.heap.size wr W) := Lib.hid fun W hb => ⟨HBC.out W hb, (HCELL.out W hb).2.1, hb⟩
        have HCA : Hid (∀ W, Below wr.heap.size wr W → Calls Tryz.prog 14 #[.string tx, .string qv] W fun e w' => e = .returned (.tuple #[.string r1, .int .i64 r2]) ∧ Below wr.heap.size wr w') := Lib.hid fun W hb => (HCK.out W (HGB.out W hb)).mono fun e w' ⟨h1, h2⟩ => ⟨h1, hb.trans (h2.mono hb.size)⟩
        clear HCK
        by_cases h0 : r2 = 0
        · subst h0
          clear HBAD
          go_wp2
          go_region
          all_goals
            have HB0 : Hid (Below wr.heap.size wr wr.drew) := Lib.hid (Below.refl _ _).drew
            go_wp2
            go_region_held3 (fun W => W.cell? ⟨w.heap.size, 4, none⟩ = some (.string tx) ∧ W.cell? ⟨g, k * 3 + 2, none⟩ = some (.string qv) ∧ Below wr.heap.size wr W)
              (first | assumption | exact HSS.out _ HB0.out | exact HSS.out _ HB0.out.drew) (first
              | (go_at_call 14; (with_reducible refine (HCA.out _ (And.right (And.right (by assumption)))).mono ?_); rintro e w2 ⟨rfl, hb2⟩; have hs2 := HSS.out _ hb2; dsimp only)
              | fail)
            all_goals
              obtain ⟨e0, e1, e2, e3⟩ := HCELL.out _ hb2
              have HW := Lib.hid (And.intro e0 e3)
              clear e0 e3 hb2 hs2
              go_wp2
              go_roundw
              case rel => exact ⟨k + 1, by go_num, by omega, Lib.hid ⟨_, HYES.out (by simp) (by simp), (HPUT.out _ _ HW.out.1).1, grown_trans HW.out.2 (HPUT.out _ _ HW.out.1).2⟩⟩
              case measure => simp [intOf]; omega
        · have hbad := HBAD.out (by simp) h0
          subst hbad
          have q0 : (r2 == 0) = false := beq_eq_false_iff_ne.2 h0
          clear HYES HBAD HPUT HDONE
          go_wp2
          go_region
          all_goals
            have HB0 : Hid (Below wr.heap.size wr wr.drew) := Lib.hid (Below.refl _ _).drew
            go_wp2
            go_region_held3 (fun W => W.cell? ⟨w.heap.size, 4, none⟩ = some (.string tx) ∧ W.cell? ⟨g, k * 3 + 2, none⟩ = some (.string qv) ∧ Below wr.heap.size wr W)
              (first | assumption | exact HSS.out _ HB0.out | exact HSS.out _ HB0.out.drew) (first
              | (go_at_call 14; (with_reducible refine (HCA.out _ (And.right (And.right (by assumption)))).mono ?_); rintro e w2 ⟨rfl, hb2⟩; have hs2 := HSS.out _ hb2; dsimp only)
              | fail)
            all_goals
              have HW := Lib.hid (HGB.out _ hb2)
              clear hb2 hs2
              go_wp2
              go_ret2
              exact ⟨_, rfl, RowP.nil_ _ _, HW.out, fun y hy => by simp [Value.ownBlock] at hy⟩
    · obtain rfl : k = ps.length := by omega
      obtain rfl := HDONE.out D hQ
      have HID := Lib.hid (And.intro hR (HG0.out _ hG))
      clear hQ hR hG HI
      go_wp2
      go_ret2
      exact ⟨_, rfl, HID.out.1, HID.out.2, fun y hy => .inl hy⟩
end Go.Proofs.YticcdighfojjjaaGreatDoor
