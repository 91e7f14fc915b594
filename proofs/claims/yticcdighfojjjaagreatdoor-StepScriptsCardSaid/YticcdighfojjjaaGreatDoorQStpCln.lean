/-
  StpApp0, StpAre, StpCln.
-/
import Derived.Test.YticcdighfojjjaaGreatDoorQStpMap
import Derived.Test.YticcdighfojjjaaGreatDoorQStpSrt
import Derived.Test.YticcdighfojjjaaGreatDoorQStpRef3
namespace Go.Proofs.YticcdighfojjjaaGreatDoor
open Go.ChangeShapes Go.WideShapes Go.ChangeAt Go.RowKit

set_option maxHeartbeats 1600000 in
set_option maxRecDepth 100000 in
theorem pchanged_any (ps : List PairV) (B : Nat) (v : Value) (s : StepV) (w : World) (h : RowP B w v ps) (hB : B ≤ w.heap.size) (hl : ps.length ≤ 100000000) (ht : s.text.size ≤ 2147483647) (hok : PrsOk ps) (hS : ∀ W, w.grownBy W v.ownBlock → StdS W) :
    Calls Tryz.prog 38 #[v, sV s] w (ChgRes B w v (chgQ ps s)) := by
  have hg0 := World.grownBy_alloc w (sO s) v.ownBlock
  have hh := RowP.alloc h (sO s)
  have hB' : B ≤ (w.alloc (sO s)).heap.size := Nat.le_trans hB (by simp)
  have HC : Hid ((Calls Tryz.prog 55 #[v, pV ⟨s.table, s.key, s.text⟩] (w.alloc (sO s)) (ChgRes B w v (putQ ps ⟨s.table, s.key, s.text⟩))) ∧ (Calls Tryz.prog 56 #[v, sV s] (w.alloc (sO s)) fun e w' => ∃ v', e = .returned v' ∧ RowP B w' v' (dropP ps s.table s.key) ∧ w.grownBy w' v.ownBlock ∧ v'.ownBlock = v.ownBlock) ∧
      (Calls Tryz.prog 57 #[v, sV s] (w.alloc (sO s)) (ChgRes B w v (renQ ps s))) ∧ (Calls Tryz.prog 58 #[v, sV s] (w.alloc (sO s)) (ChgRes B w v (tabQ ps s))) ∧
      (Calls Tryz.prog 59 #[v, sV s] (w.alloc (sO s)) (ChgRes B w v (mapP s.text s.table ps))) ∧ (Calls Tryz.prog 60 #[v, sV s] (w.alloc (sO s)) (ChgRes B w v (copyQ ps s)))) := Lib.hid
    ⟨(pput_any ps B v _ _ hh hB' (by omega)).mono fun e w' hr => hr.lift hg0, (pdropped_any ps B v s _ hh (by omega)).mono fun e w' ⟨v', h1, h2, h3, h4⟩ => ⟨v', h1, h2, grown_trans hg0 h3, h4⟩,
      (prenamed_any ps B v s _ hh hB' hl).mono fun e w' hr => hr.lift hg0, (pretabled_any ps B v s _ hh hl).mono fun e w' hr => hr.lift hg0,
      (pmapped_any ps B v s _ hh hl ht hok fun W hg => hS W (grown_trans hg0 hg)).mono fun e w' hr => hr.lift hg0, (pcopied_any ps B v s _ hh hB' (by omega)).mono fun e w' hr => hr.lift hg0⟩
  have hK : chgQ ps s = if s.kind = 1 then putQ ps ⟨s.table, s.key, s.text⟩ else if s.kind = 2 then (dropP ps s.table s.key, 0) else if s.kind = 3 then renQ ps s else if s.kind = 4 then tabQ ps s else if s.kind = 5 then mapP s.text s.table ps else copyQ ps s := rfl
  rw [hK]
  clear h hB hl ht hok hS hg0 hh hB' hK
  obtain ⟨kd, tb, ky, to, tx⟩ := s
  unfold sO sV pV at HC
  unfold sV
  dsimp only at HC ⊢
  generalize putQ ps ⟨tb, ky, tx⟩ = r1 at HC ⊢
  generalize dropP ps tb ky = r2 at HC ⊢
  generalize renQ ps ⟨kd, tb, ky, to, tx⟩ = r3 at HC ⊢
  generalize tabQ ps ⟨kd, tb, ky, to, tx⟩ = r4 at HC ⊢
  generalize mapP tx tb ps = r5 at HC ⊢
  generalize copyQ ps ⟨kd, tb, ky, to, tx⟩ = r6 at HC ⊢
  by_cases k1 : kd = 1
  · subst k1
    rw [if_pos rfl]
    go_enter Tryz.func38, Tryz.ntmps38
    go_wp2_with (go_at_call 55; refine HC.out.1.mono ?_; rintro e w3 ⟨v', rfl, h1, h2, h3⟩; have HE := Lib.hid (And.intro h1 (And.intro h2 h3)); clear h1 h2 h3)
    go_ret2
    exact ⟨_, rfl, HE.out.1, HE.out.2.1, HE.out.2.2⟩
  have g1 : (kd == 1) = false := beq_eq_false_iff_ne.2 k1
  rw [if_neg k1]
  by_cases k2 : kd = 2
  · subst k2
    rw [if_pos rfl]
    clear k1
    go_enter Tryz.func38, Tryz.ntmps38
    go_wp2_with (go_at_call 56; refine HC.out.2.1.mono ?_; rintro e w3 ⟨v', rfl, h1, h2, h3⟩; have HE := Lib.hid (And.intro h1 (And.intro h2 h3)); clear h1 h2 h3)
    go_ret2
    exact ⟨_, rfl, HE.out.1, HE.out.2.1, fun y hy => .inl (HE.out.2.2.symm.trans hy)⟩
  have g2 : (kd == 2) = false := beq_eq_false_iff_ne.2 k2
  rw [if_neg k2]
  by_cases k3 : kd = 3
  · subst k3
    rw [if_pos rfl]
    clear k1 k2
    go_enter Tryz.func38, Tryz.ntmps38
    go_wp2_with (go_at_call 57; refine HC.out.2.2.1.mono ?_; rintro e w3 ⟨v', rfl, h1, h2, h3⟩; have HE := Lib.hid (And.intro h1 (And.intro h2 h3)); clear h1 h2 h3)
    go_ret2
    exact ⟨_, rfl, HE.out.1, HE.out.2.1, HE.out.2.2⟩
  have g3 : (kd == 3) = false := beq_eq_false_iff_ne.2 k3
  rw [if_neg k3]
  by_cases k4 : kd = 4
  · subst k4
    rw [if_pos rfl]
    clear k1 k2 k3
    go_enter Tryz.func38, Tryz.ntmps38
    go_wp2_with (go_at_call 58; refine HC.out.2.2.2.1.mono ?_; rintro e w3 ⟨v', rfl, h1, h2, h3⟩; have HE := Lib.hid (And.intro h1 (And.intro h2 h3)); clear h1 h2 h3)
    go_ret2
    exact ⟨_, rfl, HE.out.1, HE.out.2.1, HE.out.2.2⟩
  have g4 : (kd == 4) = false := beq_eq_false_iff_ne.2 k4
  rw [if_neg k4]
  by_cases k5 : kd = 5
  · subst k5
    rw [if_pos rfl]
    clear k1 k2 k3 k4
    go_enter Tryz.func38, Tryz.ntmps38
    go_wp2_with (go_at_call 59; refine HC.out.2.2.2.2.1.mono ?_; rintro e w3 ⟨v', rfl, h1, h2, h3⟩; have HE := Lib.hid (And.intro h1 (And.intro h2 h3)); clear h1 h2 h3)
    go_ret2
    exact ⟨_, rfl, HE.out.1, HE.out.2.1, HE.out.2.2⟩
  have g5 : (kd == 5) = false := beq_eq_false_iff_ne.2 k5
  rw [if_neg k5]
  clear k1 k2 k3 k4 k5
  go_enter Tryz.func38, Tryz.ntmps38
  go_wp2_with (go_at_call 60; refine HC.out.2.2.2.2.2.mono ?_; rintro e w3 ⟨v', rfl, h1, h2, h3⟩; have HE := Lib.hid (And.intro h1 (And.intro h2 h3)); clear h1 h2 h3)
  go_ret2
  exact ⟨_, rfl, HE.out.1, HE.out.2.1, HE.out.2.2⟩

/-! arePairs -/
theorem zero_less {p : PairV} (h : okP p = true) : lessP zP p = true := by
  obtain ⟨h1, _, _⟩ := okP_iff.1 h
  have h2 := wordA_pos h1
  unfold lessP
  have : ltB zP.table p.table = true := by
    unfold ltB zP
    have hl := data_len p.table
    have e : p.table.toList = p.table.data.toList := Lib.toList_data _
    rw [e]
    cases hd : p.table.data.toList with
    | nil => rw [hd] at hl; exact absurd hl.symm h2
    | cons a r =>
      have : (⟨#[]⟩ : ByteArray).toList = [] := by rw [Lib.toList_data]
      rw [this]; rfl
  rw [this]; rfl
theorem cmp_ge (p q : PairV) : decide (0 ≤ cmpP p q) = !lessP p q := by
  have := cmpP_lt p q
  cases h : lessP p q with
  | true => have h2 := this.2 h; simp; omega
  | false =>
    have : ¬ cmpP p q < 0 := fun h3 => by rw [this.1 h3] at h; cases h
    simp; omega
def lastP (ps : List PairV) (s : Nat) : PairV := if h : 0 < s ∧ s ≤ ps.length then ps[s - 1]'(by omega) else zP
theorem lastP_zero (ps : List PairV) : lastP ps 0 = zP := by unfold lastP; rw [dif_neg (by omega)]
theorem lastP_succ {ps : List PairV} {s : Nat} (h : s < ps.length) : lastP ps (s + 1) = ps[s] := by
  unfold lastP; rw [dif_pos (by omega)]; rfl
end Go.Proofs.YticcdighfojjjaaGreatDoor

namespace Go.Proofs.YticcdighfojjjaaGreatDoor
open Go.ChangeShapes Go.WideShapes Go.ChangeAt Go.RowKit

/-- Two pairs in blocks of a walk's own: one that may be written over, one that is read. -/
structure ArP (w : World) (L X : Nat) (p q : PairV) (W : World) : Prop where
  c0 : W.cell? ⟨L, 0, none⟩ = some (.string p.table)
  c1 : W.cell? ⟨L, 1, none⟩ = some (.string p.key)
  c2 : W.cell? ⟨L, 2, none⟩ = some (.string p.value)
  free : ∀ r, W.frozen? ⟨L, r, none⟩ = false
  d0 : W.cell? ⟨X, 0, none⟩ = some (.string q.table)
  d1 : W.cell? ⟨X, 1, none⟩ = some (.string q.key)
  d2 : W.cell? ⟨X, 2, none⟩ = some (.string q.value)
  below : Below w.heap.size w W
  lt : L < W.heap.size ∧ X < W.heap.size
theorem ArP.next {w : World} {L X : Nat} {p q : PairV} {W W' : World} (h : ArP w L X p q W) (hb : Below W.heap.size W W') : ArP w L X p q W' := by
  have hl := h.lt
  have cL : ∀ r, W'.cell? ⟨L, r, none⟩ = W.cell? ⟨L, r, none⟩ := fun r => hb.cell (p := ⟨L, r, none⟩) hl.1
  have cX : ∀ r, W'.cell? ⟨X, r, none⟩ = W.cell? ⟨X, r, none⟩ := fun r => hb.cell (p := ⟨X, r, none⟩) hl.2
  exact ⟨(cL 0).trans h.c0, (cL 1).trans h.c1, (cL 2).trans h.c2, fun r => by rw [World.frozen?_of_block (a := ⟨L, r, none⟩) (hb.block L hl.1)]; exact h.free r, (cX 0).trans h.d0, (cX 1).trans h.d1, (cX 2).trans h.d2, h.below.trans (hb.mono h.below.size), Nat.lt_of_lt_of_le hl.1 hb.size, Nat.lt_of_lt_of_le hl.2 hb.size⟩
/-- The one that may be written over, alone. -/
structure LsP (w : World) (L : Nat) (p : PairV) (W : World) : Prop where
  c0 : W.cell? ⟨L, 0, none⟩ = some (.string p.table)
  c1 : W.cell? ⟨L, 1, none⟩ = some (.string p.key)
  c2 : W.cell? ⟨L, 2, none⟩ = some (.string p.value)
  free : ∀ r, W.frozen? ⟨L, r, none⟩ = false
  below : Below w.heap.size w W
  lt : L < W.heap.size
theorem LsP.box {w : World} {L : Nat} {p : PairV} {W : World} (h : LsP w L p W) (q : PairV) : ArP w L W.heap.size p q (W.alloc (pO q)) := by
  have hb := below_one W (pO q)
  have cL : ∀ r, (W.alloc (pO q)).cell? ⟨L, r, none⟩ = W.cell? ⟨L, r, none⟩ := fun r => hb.cell (p := ⟨L, r, none⟩) h.lt
  have cX : ∀ r v, #[Value.string q.table, .string q.key, .string q.value][r]? = some v → (W.alloc (pO q)).cell? ⟨W.heap.size, r, none⟩ = some v := fun r v hv => by rw [cell_of_row _ _ r _ _ _ (heap_alloc_new W _)]; exact hv
  exact ⟨(cL 0).trans h.c0, (cL 1).trans h.c1, (cL 2).trans h.c2, fun r => by rw [World.frozen?_of_block (a := ⟨L, r, none⟩) (hb.block L h.lt)]; exact h.free r, cX 0 _ rfl, cX 1 _ rfl, cX 2 _ rfl, h.below.trans (hb.mono h.below.size), by have := h.lt; simp; omega, by simp⟩
theorem ArP.store {w : World} {L X : Nat} {p q : PairV} {W : World} (h : ArP w L X p q W) (hL : w.heap.size ≤ L) : LsP w L q (((W.setCell ⟨L, 0, none⟩ (.string q.table)).setCell ⟨L, 1, none⟩ (.string q.key)).setCell ⟨L, 2, none⟩ (.string q.value)) := by
  refine ⟨?_, ?_, ?_, fun r => ?_, ((h.below.setCell (p := ⟨L, 0, none⟩) hL _).setCell (p := ⟨L, 1, none⟩) hL _).setCell (p := ⟨L, 2, none⟩) hL _, by simpa using h.lt.1⟩
  · rw [World.cell?_setCell_other _ _ _ _ (by simp), World.cell?_setCell_other _ _ _ _ (by simp), World.cell?_setCell_same _ _ _ h.c0]
  · rw [World.cell?_setCell_other _ _ _ _ (by simp), World.cell?_setCell_same _ _ _ (by rw [World.cell?_setCell_other _ _ _ _ (by simp)]; exact h.c1)]
  · rw [World.cell?_setCell_same _ _ _ (by rw [World.cell?_setCell_other _ _ _ _ (by simp), World.cell?_setCell_other _ _ _ _ (by simp)]; exact h.c2)]
  · rw [World.frozen?_setCell, World.frozen?_setCell, World.frozen?_setCell]; exact h.free r
set_option maxHeartbeats 3200000 in
set_option maxRecDepth 100000 in
theorem arePairs_any (ps : List PairV) (x : Option Addr) (n c : Nat) (w : World) (h : PrsAt w x ps) (hn : ps.length = n) (hl : n ≤ 2147483647) (hok : PrsOk ps) (hT : Tab w) :
    Calls Tryz.prog 37 #[.slice x n c] w fun e w' => e = .returned (.bool (pairsB ps)) ∧ Below w.heap.size w w' := by
  have HN := Lib.hid hn
  have HX := Lib.hid h
  have HOK := Lib.hid hok
  by_cases hbig : 500 < n
  · have hv : pairsB ps = false := by unfold pairsB; rw [decide_eq_false (by omega)]; rfl
    rw [hv]
    clear hv hn h hok hT
    go_enter Tryz.func37, Tryz.ntmps37
    go_wp2
    go_ret
    exact ⟨rfl, Below.refl _ _⟩
  have hsm : ¬ (500 : Int) < n := by omega
  have hn5 : n ≤ 500 := by omega
  have HM : Hid (∀ W p, Below w.heap.size w W → p ∈ ps → Calls Tryz.prog 54 #[pV p] W fun e w' => e = .returned (.bool (okP p)) ∧ Below W.heap.size W w') := Lib.hid fun W p hb hp => (mayBe_any p W (by have := (hok p hp).1; unfold maxLen; omega) (by have := (hok p hp).2.1; unfold maxLen; omega) (hT.below hb)).mono fun e w' ⟨h1, h2⟩ => ⟨h1, by rw [h2]; exact below_one _ _⟩
  have HCM : Hid (∀ W p q, Calls Tryz.prog 42 #[pV p, pV q] W fun e w' => e = .returned (.int .i64 (cmpP p q)) ∧ Below W.heap.size W w') := Lib.hid fun W p q => (byP_any p q W).mono fun e w' ⟨h1, k, os, h2⟩ => ⟨h1, by rw [h2]; exact Go.Proofs.YticcdighfojjjaaGreatDoor.below_grow _ _ _⟩
  have HL0 : Hid (LsP w w.heap.size zP (w.alloc (.cells #[.string ByteArray.empty, .string ByteArray.empty, .string ByteArray.empty] 51))) := Lib.hid ⟨by simp; rfl, by simp; rfl, by simp; rfl, fun r => by simp, below_one _ _, by simp⟩
  have HLZ := Lib.hid (lastP_zero ps)
  clear hn h hok hbig hT
  go_enter Tryz.func37, Tryz.ntmps37
  go_wp2
  obtain ⟨L, hLe⟩ : ∃ L, L = w.heap.size := ⟨_, rfl⟩
  have HLE := Lib.hid hLe
  rw [← hLe] at HL0 ⊢
  clear hLe
  go_loopw [5, 11] (fun _ i wr => ∃ s : Nat, i = .int .i64 s ∧ s ≤ n ∧ Hid (LsP w L (lastP ps s) wr ∧ (∀ j (hj : j < ps.length), j < s → okP ps[j] = true) ∧ ∀ i (hi : i + 1 < ps.length), i + 1 < s → lessP (ps[i]'(by omega)) ps[i + 1] = true)) (fun _ i _ => n - (intOf i).toNat)
  case atStart => exact ⟨0, rfl, by omega, Lib.hid ⟨by rw [HLZ.out]; exact HL0.out, fun j _ hj => by omega, fun i _ hi => by omega⟩⟩
  case round =>
    clear HL0
    obtain ⟨s, rfl, hs, HI⟩ := hrel
    by_cases hlt : s < n
    · have hsx : s < ps.length := by rw [HN.out]; exact hlt
      obtain ⟨b, off, hx, hbl, c0, c1, c2⟩ := (HX.out.below HI.out.1.below) s hsx
      have q1 : (0 : Int) ≤ s := by omega
      have q2 : (s : Int) < n := by omega
      have HA := Lib.hid (HI.out.1.box ps[s])
      have hmem : ps[s] ∈ ps := List.getElem_mem hsx
      have HMQ : Hid (∀ W, ArP w L wr.heap.size (lastP ps s) ps[s] W → Calls Tryz.prog 54 #[pV ps[s]] W fun e w' => e = .returned (.bool (okP ps[s])) ∧ ArP w L wr.heap.size (lastP ps s) ps[s] w') := Lib.hid fun W hA => (HM.out W _ hA.below hmem).mono fun e w' ⟨h1, h2⟩ => ⟨h1, hA.next h2⟩
      have HCQ : Hid (∀ W, ArP w L wr.heap.size (lastP ps s) ps[s] W → Calls Tryz.prog 42 #[pV (lastP ps s), pV ps[s]] W fun e w' => e = .returned (.int .i64 (cmpP (lastP ps s) ps[s])) ∧ ArP w L wr.heap.size (lastP ps s) ps[s] w') := Lib.hid fun W hA => (HCM.out W _ _).mono fun e w' ⟨h1, h2⟩ => ⟨h1, hA.next h2⟩
      have HNO : Hid (okP ps[s] = false → pairsB ps = false) := Lib.hid fun h => okP_not h hmem
      have HNL : Hid (okP ps[s] = true → lessP (lastP ps s) ps[s] = false → pairsB ps = false) := Lib.hid fun h0 h => by
        cases s with
        | zero => rw [lastP_zero, zero_less h0] at h; cases h
        | succ s => rw [lastP_succ (by omega)] at h; exact pairs_less hsx h
      have HYES : Hid (okP ps[s] = true → lessP (lastP ps s) ps[s] = true → (∀ j (hj : j < ps.length), j < s + 1 → okP ps[j] = true) ∧ ∀ i (hi : i + 1 < ps.length), i + 1 < s + 1 → lessP (ps[i]'(by omega)) ps[i + 1] = true) := Lib.hid fun h0 h1 => by
        refine ⟨fun j hj hj2 => ?_, fun i hi hi2 => ?_⟩
        · rcases Nat.lt_or_ge j s with h | h
          · exact HI.out.2.1 j hj h
          · obtain rfl : j = s := by omega
            exact h0
        · rcases Nat.lt_or_ge (i + 1) s with h | h
          · exact HI.out.2.2 i hi h
          · obtain rfl : s = i + 1 := by omega
            rw [lastP_succ (by omega)] at h1; exact h1
      have HLS : Hid (lastP ps (s + 1) = ps[s]) := Lib.hid (lastP_succ hsx)
      have hcg := cmp_ge (lastP ps s) ps[s]
      generalize ps[s] = q at c0 c1 c2 HA HMQ HCQ HNO HNL HYES HLS hcg
      generalize lastP ps s = p at HA HMQ HCQ HNL HYES hcg
      obtain ⟨qt, qk, qv⟩ := q
      obtain ⟨pt, pk, pv⟩ := p
      unfold pO at HA
      unfold pV at HMQ HCQ
      dsimp only at c0 c1 c2 HA HMQ HCQ
      generalize okP ⟨qt, qk, qv⟩ = a at HMQ HNO HNL HYES
      generalize lessP ⟨pt, pk, pv⟩ ⟨qt, qk, qv⟩ = a2 at HNL HYES hcg
      generalize cmpP ⟨pt, pk, pv⟩ ⟨qt, qk, qv⟩ = cm at HCQ hcg
      clear hmem hsx HI
      subst hx
      cases a with
      | false =>
        have hpb := HNO.out rfl
        have HPB := Lib.hid hpb
        clear HNL HYES HCQ hcg HNO hpb
        go_wp2_with (go_at_call 54; refine (HMQ.out _ HA.out).mono ?_; rintro e w2 ⟨rfl, h2⟩; have H2 := Lib.hid h2; clear h2)
        go_ret
        exact ⟨by rw [HPB.out]; rfl, H2.out.below⟩
      | true =>
        cases a2 with
        | false =>
          have hpb := HNL.out rfl rfl
          have HPB := Lib.hid hpb
          clear HNL HYES HNO hpb
          go_wp2_with (first
            | (go_at_call 54; refine (HMQ.out _ HA.out).mono ?_; rintro e w2 ⟨rfl, h2⟩; have H2 := Lib.hid h2; obtain ⟨a0, a1, a2, _, b0, b1, b2, _, _⟩ := h2)
            | (go_at_call 42; refine (HCQ.out _ H2.out).mono ?_; rintro e w3 ⟨rfl, h3⟩; have H3 := Lib.hid h3; clear h3))
          go_ret
          exact ⟨by rw [HPB.out]; rfl, H3.out.below⟩
        | true =>
          have HY := Lib.hid (HYES.out rfl rfl)
          clear HNL HYES HNO
          go_wp2_with (first
            | (go_at_call 54; refine (HMQ.out _ HA.out).mono ?_; rintro e w2 ⟨rfl, h2⟩; have H2 := Lib.hid h2; obtain ⟨a0, a1, a2, _, b0, b1, b2, _, _⟩ := h2)
            | (go_at_call 42; refine (HCQ.out _ H2.out).mono ?_; rintro e w3 ⟨rfl, h3⟩; have HST := Lib.hid (h3.store (by rw [HLE.out]; exact Nat.le_refl _)); obtain ⟨e0, e1, e2, ez, f0, f1, f2, _, _⟩ := h3; have z0 := ez 0; have z1 := ez 1; have z2 := ez 2; clear ez))
          go_roundw
          case rel => exact ⟨s + 1, by go_num, by omega, Lib.hid ⟨by rw [HLS.out]; exact HST.out, HY.out⟩⟩
          case measure => simp [intOf]; omega
    · have hpb : pairsB ps = true := pairs_yes (by have := HN.out; omega) (fun j hj => HI.out.2.1 j hj (by have := HN.out; omega)) fun i hi => HI.out.2.2 i hi (by have := HN.out; omega)
      have HPB := Lib.hid hpb
      have HB := Lib.hid HI.out.1.below
      clear hpb HI
      go_wp2
      go_ret
      exact ⟨by rw [HPB.out]; rfl, HB.out⟩
end Go.Proofs.YticcdighfojjjaaGreatDoor

namespace Go.Proofs.YticcdighfojjjaaGreatDoor
open Go.ChangeShapes Go.WideShapes Go.ChangeAt Go.RowKit

/-- A round of cloneTexts: the pair's box, its place in the row, and the row. -/
def ClS (B : Nat) (w : World) (X G i n cap : Nat) (ps : List PairV) (t k u : ByteArray) (W : World) : Prop :=
  W.cell? ⟨X, 0, none⟩ = some (.string t) ∧ W.cell? ⟨X, 1, none⟩ = some (.string k) ∧ W.cell? ⟨X, 2, none⟩ = some (.string u) ∧ W.cell? ⟨G, i * 3, none⟩ = some (.string t) ∧ W.cell? ⟨G, i * 3 + 1, none⟩ = some (.string k) ∧ W.cell? ⟨G, i * 3 + 2, none⟩ = some (.string u) ∧
    W.frozen? ⟨G, i * 3, none⟩ = false ∧ W.frozen? ⟨G, i * 3 + 1, none⟩ = false ∧ W.frozen? ⟨G, i * 3 + 2, none⟩ = false ∧ (RowP B W (.slice (some ⟨G, 0, none⟩) n cap) ps ∧ w.grownBy W (some G) ∧ X < W.heap.size)
section
variable {B X G i n cap : Nat} {w W W' : World} {ps : List PairV} {t k u : ByteArray}
theorem ClS.of (hR : RowP B W (.slice (some ⟨G, 0, none⟩) n cap) ps) (hn : ps.length = n) (hi : i < ps.length) (ht : ps[i].table = t) (hk : ps[i].key = k) (hu : ps[i].value = u) (hg : w.grownBy W (some G)) (hX : X < W.heap.size)
    (d0 : W.cell? ⟨X, 0, none⟩ = some (.string t)) (d1 : W.cell? ⟨X, 1, none⟩ = some (.string k)) (d2 : W.cell? ⟨X, 2, none⟩ = some (.string u)) : ClS B w X G i n cap ps t k u W := by
  have hR' : RowP B W (.slice (some ⟨G, 0, none⟩) ps.length cap) ps := by rw [hn]; exact hR
  obtain ⟨c0, c1, c2⟩ := hR'.cells hi
  rw [ht] at c0
  rw [hk] at c1
  rw [hu] at c2
  exact ⟨d0, d1, d2, c0, c1, c2, hR'.free _, hR'.free _, hR'.free _, hR, hg, hX⟩
theorem ClS.next (h : ClS B w X G i n cap ps t k u W) (hn : ps.length = n) (hi : i < ps.length) (ht : ps[i].table = t) (hk : ps[i].key = k) (hu : ps[i].value = u) (hb : Below W.heap.size W W') : ClS B w X G i n cap ps t k u W' := by
  obtain ⟨d0, d1, d2, _, _, _, _, _, _, hR, hg, hX⟩ := h
  have cX : ∀ r, W'.cell? ⟨X, r, none⟩ = W.cell? ⟨X, r, none⟩ := fun r => hb.cell (p := ⟨X, r, none⟩) hX
  exact ClS.of (hR.below hb) hn hi ht hk hu (grown_trans hg (grown_below hb _)) (Nat.lt_of_lt_of_le hX hb.size) ((cX 0).trans d0) ((cX 1).trans d1) ((cX 2).trans d2)
theorem ClS.store (h : ClS B w X G i n cap ps t k u W) (hn : ps.length = n) (hi : i < ps.length) (ht : ps[i].table = t) (hk : ps[i].key = k) (hu : ps[i].value = u) (hXG : X ≠ G) :
    ClS B w X G i n cap ps t k u (((W.setCell ⟨G, i * 3, none⟩ (.string t)).setCell ⟨G, i * 3 + 1, none⟩ (.string k)).setCell ⟨G, i * 3 + 2, none⟩ (.string u)) := by
  obtain ⟨d0, d1, d2, _, _, _, _, _, _, hR, hg, hX⟩ := h
  have hR' : RowP B W (.slice (some ⟨G, 0, none⟩) ps.length cap) ps := by rw [hn]; exact hR
  obtain ⟨e1, e2⟩ := hR'.put hi ⟨t, k, u⟩
  have hs : ps.set i ⟨t, k, u⟩ = ps := by
    rw [← ht, ← hk, ← hu]; exact List.set_getElem_self _
  rw [hs, hn] at e1
  have cX : ∀ r, (((W.setCell ⟨G, i * 3, none⟩ (.string t)).setCell ⟨G, i * 3 + 1, none⟩ (.string k)).setCell ⟨G, i * 3 + 2, none⟩ (.string u)).cell? ⟨X, r, none⟩ = W.cell? ⟨X, r, none⟩ := fun r => World.cell?_of_block (a := ⟨X, r, none⟩) (e2.block X hX (fun e => hXG (by injection e)))
  exact ClS.of e1 hn hi ht hk hu (grown_trans hg e2) (Nat.lt_of_lt_of_le hX e2.size) ((cX 0).trans d0) ((cX 1).trans d1) ((cX 2).trans d2)
end
set_option maxHeartbeats 3200000 in
set_option maxRecDepth 100000 in
theorem cloneTexts_any (ps : List PairV) (B G n cap : Nat) (w : World) (h : RowP B w (.slice (some ⟨G, 0, none⟩) n cap) ps) (hn : ps.length = n) (hl : n ≤ 1000000) (hok : PrsOk ps) :
    Calls Tryz.prog 40 #[.slice (some ⟨G, 0, none⟩) n cap] w fun e w' => e = .returned (.tuple #[]) ∧ RowP B w' (.slice (some ⟨G, 0, none⟩) n cap) ps ∧ w.grownBy w' (some G) := by
  have HN := Lib.hid hn
  have HR := Lib.hid h
  have HOK := Lib.hid hok
  clear h hn hok
  go_enter Tryz.func40, Tryz.ntmps40
  go_wp2
  go_loopw [2, 3, 6] (fun _ _ i wr => ∃ s : Nat, i = .int .i64 s ∧ s ≤ n ∧ Hid (RowP B wr (.slice (some ⟨G, 0, none⟩) n cap) ps ∧ w.grownBy wr (some G))) (fun _ _ i _ => n - (intOf i).toNat)
  case atStart => exact ⟨0, rfl, by omega, Lib.hid ⟨HR.out, grown_refl _ _⟩⟩
  case round =>
    clear HR
    obtain ⟨s, rfl, hs, HI⟩ := hrel
    by_cases hlt : s < n
    · have hsx : s < ps.length := by rw [HN.out]; exact hlt
      have hR' : RowP B wr (.slice (some ⟨G, 0, none⟩) ps.length cap) ps := by rw [HN.out]; exact HI.out.1
      obtain ⟨c0, c1, c2⟩ := hR'.cells hsx
      have q1 : (0 : Int) ≤ s := by omega
      have q2 : (s : Int) < n := by omega
      obtain ⟨z1, z2, z3⟩ := HOK.out _ (List.getElem_mem hsx)
      have hGl := (hR'.lt (k := G) rfl).2
      obtain ⟨t, ht⟩ : ∃ t, ps[s].table = t := ⟨_, rfl⟩
      obtain ⟨k, hk⟩ : ∃ k, ps[s].key = k := ⟨_, rfl⟩
      obtain ⟨u, hu⟩ : ∃ u, ps[s].value = u := ⟨_, rfl⟩
      have HS0 : Hid (ClS B w wr.heap.size G s n cap ps t k u ((wr.alloc (.cells #[.string t, .string k, .string u] 51)).drew)) := Lib.hid (by
        have hn : ∀ r v, #[Value.string t, .string k, .string u][r]? = some v → (wr.alloc (.cells #[.string t, .string k, .string u] 51)).cell? ⟨wr.heap.size, r, none⟩ = some v := fun r v hv => by rw [cell_of_row _ _ r _ _ _ (heap_alloc_new wr _)]; exact hv
        have h0 : ClS B w wr.heap.size G s n cap ps t k u (wr.alloc (.cells #[.string t, .string k, .string u] 51)) := ClS.of (RowP.alloc HI.out.1 _) HN.out hsx ht hk hu (grown_trans HI.out.2 (World.grownBy_alloc _ _ _)) (by simp) (hn 0 _ rfl) (hn 1 _ rfl) (hn 2 _ rfl)
        exact h0.next HN.out hsx ht hk hu (Below.refl _ _).drew)
      have HC : Hid (∀ x, x.size ≤ 2147483647 → ∀ W, ClS B w wr.heap.size G s n cap ps t k u W → Calls Tryz.prog 61 #[.string x] W fun e w' => e = .returned (.string x) ∧ ClS B w wr.heap.size G s n cap ps t k u w') := Lib.hid fun x hx W hS => (sclone_any x W (by omega)).mono fun e w' ⟨h1, h2⟩ => ⟨h1, hS.next HN.out hsx ht hk hu h2⟩
      have H0 := Lib.hid (HC.out t (by rw [← ht]; exact z1))
      have H1 := Lib.hid (HC.out k (by rw [← hk]; exact z2))
      have H2 := Lib.hid (HC.out u (by rw [← hu]; exact z3))
      have HST : Hid (∀ W, ClS B w wr.heap.size G s n cap ps t k u W → ClS B w wr.heap.size G s n cap ps t k u (((W.setCell ⟨G, s * 3, none⟩ (.string t)).setCell ⟨G, s * 3 + 1, none⟩ (.string k)).setCell ⟨G, s * 3 + 2, none⟩ (.string u))) := Lib.hid fun W hS => hS.store HN.out hsx ht hk hu (by omega)
      rw [ht] at c0
      rw [hk] at c1
      rw [hu] at c2
      clear z1 z2 z3 HC ht hk hu hR' hGl hsx HI
      unfold ClS at HS0 H0 H1 H2 HST
      go_wp2
      go_region_held3 (fun W => W.cell? ⟨wr.heap.size, 0, none⟩ = some (.string t) ∧ W.cell? ⟨wr.heap.size, 1, none⟩ = some (.string k) ∧ W.cell? ⟨wr.heap.size, 2, none⟩ = some (.string u) ∧ W.cell? ⟨G, s * 3, none⟩ = some (.string t) ∧ W.cell? ⟨G, s * 3 + 1, none⟩ = some (.string k) ∧ W.cell? ⟨G, s * 3 + 2, none⟩ = some (.string u) ∧ W.frozen? ⟨G, s * 3, none⟩ = false ∧ W.frozen? ⟨G, s * 3 + 1, none⟩ = false ∧ W.frozen? ⟨G, s * 3 + 2, none⟩ = false ∧ (RowP B W (.slice (some ⟨G, 0, none⟩) n cap) ps ∧ w.grownBy W (some G) ∧ wr.heap.size < W.heap.size))
        (first | assumption | exact HS0.out | exact HST.out _ (by assumption)) (first
        | (go_at_call 61; (with_reducible refine (H0.out _ (by assumption)).mono ?_); rintro e w2 ⟨rfl, hs2⟩; dsimp only)
        | (go_at_call 61; (with_reducible refine (H1.out _ (by assumption)).mono ?_); rintro e w2 ⟨rfl, hs2⟩; dsimp only)
        | (go_at_call 61; (with_reducible refine (H2.out _ (by assumption)).mono ?_); rintro e w2 ⟨rfl, hs2⟩; dsimp only)
        | fail)
      all_goals
        have HE := Lib.hid (HST.out _ hs2).2.2.2.2.2.2.2.2.2
        clear HS0 H0 H1 H2 HST
        go_wp2
        go_roundw
        case rel => exact ⟨s + 1, by go_num, by omega, Lib.hid ⟨HE.out.1, HE.out.2.1⟩⟩
        case measure => simp [intOf]; omega
    · clear hl
      have HE := Lib.hid HI.out
      clear HI
      go_wp2
      go_end0
      exact ⟨rfl, HE.out.1, HE.out.2⟩
end Go.Proofs.YticcdighfojjjaaGreatDoor
