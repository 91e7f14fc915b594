/-
  StoLayM, StoLay.
-/
import Derived.Test.YtlommddabccdeaaGreatDoorQStoOF
namespace Go.Proofs.YtlommddabccdeaaGreatDoor

theorem flat_congr {α : Type} {f g : α → List UInt8} : ∀ {l : List α}, (∀ x ∈ l, f x = g x) → l.flatMap f = l.flatMap g
 | [], _ => rfl
 | a :: l, h => by rw [List.flatMap_cons, List.flatMap_cons, h a List.mem_cons_self, flat_congr fun x hx => h x (List.mem_cons_of_mem _ hx)]
def foC (ps nx : List PairV) (t k : ByteArray) : Option (Option ByteArray) := if lookP nx t k = lookP ps t k then none else some (lookP nx t k)
def foW (nx : List PairV) (t k : ByteArray) : Option (Option ByteArray) := (lookP nx t k).map some
theorem foC_map (ps nx : List PairV) : (fun t k => (foC ps nx t k).map conV) = chgF ps nx := by
 funext t k
 unfold foC chgF
 split
 ·rfl
 ·rfl
theorem foW_map (nx : List PairV) : (fun t k => (foW nx t k).map conV) = comF nx := by
 funext t k
 unfold foW comF
 cases lookP nx t k <;> rfl
theorem look_small {ps : List PairV} (hr : Rise ps) (ho : ∀ p ∈ ps, okP p = true) {t k v : ByteArray} (h : lookP ps t k = some v) : t.size ≤ 32 ∧ k.size ≤ 32 ∧ v.size ≤ 200 := okP_sizes (ho _ ((look_iff hr).1 h))
section
variable {ps nx : List PairV} {L : List Plc}
theorem mem_risC (hp : Rise ps) (hx : Rise nx) (op : ∀ p ∈ ps, okP p = true) (ox : ∀ p ∈ nx, okP p = true) (hL : RisL (chgF ps nx) L) (x : Plc) : x ∈ L ↔ lookP nx x.1 x.2 ≠ lookP ps x.1 x.2 := by
 have hmax : 32 ≤ maxLen := by unfold maxLen; omega
 constructor
 ·intro h
  obtain ⟨a, b⟩ := hL.small x h
  have := (hL.is x.1 x.2 a b).2 h
  unfold chgF at this
  split at this
  ·cases this
  ·assumption
 ·intro h
  have hs : x.1.size ≤ maxLen ∧ x.2.size ≤ maxLen := by
   cases h1 : lookP nx x.1 x.2 with
   | some v => obtain ⟨a, b, _⟩ := look_small hx ox h1; exact ⟨Nat.le_trans a hmax, Nat.le_trans b hmax⟩
   | none =>
    cases h2 : lookP ps x.1 x.2 with
    | some v => obtain ⟨a, b, _⟩ := look_small hp op h2; exact ⟨Nat.le_trans a hmax, Nat.le_trans b hmax⟩
    | none => rw [h1, h2] at h; exact absurd rfl h
  refine (hL.is x.1 x.2 hs.1 hs.2).1 ?_
  unfold chgF
  rw [if_neg h]; rfl
theorem recB_C (hm : ∀ x : Plc, x ∈ L ↔ lookP nx x.1 x.2 ≠ lookP ps x.1 x.2) : recB 0 (foC ps nx) L = recC (chgsOf nx L) := by
 rw [recC_rows]
 unfold recB chgsOf
 rw [List.flatMap_map]
 congr 1
 refine flat_congr fun x hx => ?_
 unfold rowC rowOfC foC
 rw [if_neg ((hm x).1 hx)]
 rfl
theorem right_C (hp : Rise ps) (hx : Rise nx) (op : ∀ p ∈ ps, okP p = true) (ox : ∀ p ∈ nx, okP p = true) (hL : RisL (chgF ps nx) L) (hne : nx ≠ ps) (hl : nx.length ≤ 500) : RightC ps (chgsOf nx L) ∧ allB ps (chgsOf nx L) = nx := by
 have hm := mem_risC hp hx op ox hL
 have hall := allB_chgs hp hx hm
 refine ⟨⟨fun c hc => ?_, ?_, fun c hc => ?_, fun e => hne ?_, by rw [hall]; exact hl⟩, hall⟩
 ·obtain ⟨x, hx2, rfl⟩ := List.mem_map.1 hc
  have h := (hm x).1 hx2
  unfold okC
  simp only
  cases h1 : lookP nx x.1 x.2 with
  | some v => exact ox _ ((look_iff hx).1 h1)
  | none =>
   cases h2 : lookP ps x.1 x.2 with
   | some v =>
    have := op _ ((look_iff hp).1 h2)
    unfold okP at this ⊢
    simp only [Bool.and_eq_true] at this ⊢
    exact ⟨this.1, rfl⟩
   | none => rw [h1, h2] at h; exact absurd rfl h
 ·exact List.pairwise_map.2 (hL.rise.imp fun {a b} hab => hab)
 ·obtain ⟨x, hx2, rfl⟩ := List.mem_map.1 hc
  exact (hm x).1 hx2
 ·have h0 : L = [] := by simpa [chgsOf] using e
  refine look_ext hx hp fun t k => ?_
  false_or_by_contra
  rename_i hn
  have := (hm (t, k)).2 hn
  rw [h0] at this
  cases this
theorem ris_W (hx : Rise nx) (ox : ∀ p ∈ nx, okP p = true) (hL : RisL (comF nx) L) : L = ptsL nx := by
 have hiff : ∀ t k, (comF nx t k).isSome = true ↔ (t, k) ∈ ptsL nx := fun t k => by
  unfold comF
  rw [Option.isSome_map, mem_ptsL hx, Option.isSome_iff_exists]
 refine risePl_ext hL.rise (rise_ptsL hx) fun y => ⟨fun hy => ?_, fun hy => ?_⟩
 ·obtain ⟨a, b⟩ := hL.small y hy
  exact (hiff y.1 y.2).1 ((hL.is y.1 y.2 a b).2 hy)
 ·obtain ⟨v, hv⟩ := (mem_ptsL hx).1 hy
  obtain ⟨a, b, _⟩ := look_small hx ox hv
  have hmax : 32 ≤ maxLen := by unfold maxLen; omega
  exact (hL.is y.1 y.2 (Nat.le_trans a hmax) (Nat.le_trans b hmax)).1 ((hiff y.1 y.2).2 hy)
theorem recB_W (hx : Rise nx) : recB 1 (foW nx) (ptsL nx) = recW nx := by
 unfold recB recW ptsL
 rw [List.flatMap_map]
 congr 1
 refine flat_congr fun p hp => ?_
 unfold rowC foW pairRow
 rw [(look_mem hx).1 hp]
 rfl
theorem recW_len (ox : ∀ p ∈ nx, okP p = true) : (recW nx).length ≤ 1 + nx.length * 274 := by
 unfold recW
 rw [List.length_append, rowL_one 1 (Or.inr rfl)]
 have := flat_len pairRow 274 nx fun p hp => by
  obtain ⟨a, b, c⟩ := okP_sizes (ox p hp)
  have h1 := txL_len p.table (by omega)
  have h2 := txL_len p.key (by omega)
  have h3 := txL_len p.value (by omega)
  unfold pairRow
  rw [List.length_append, List.length_append]
  omega
 omega
end
theorem recB_pos (says : Nat) (hs : says = 0 ∨ says = 1) (fo : ByteArray → ByteArray → Option (Option ByteArray)) (L : List Plc) : 1 ≤ (recB says fo L).length := by
 unfold recB
 rw [List.length_append, rowL_one says hs]
 omega
end Go.Proofs.YtlommddabccdeaaGreatDoor

namespace Go.Proofs.YtlommddabccdeaaGreatDoor
open Go.ChangeShapes Go.WideShapes Go.ChangeAt Go.RowKit

def LayOut (w : World) (J : Nat) (D : DskP) (d : DskV) (X : StoX) (e : Ending) (w' : World) : Prop :=
  ∃ E, e = .returned (.int .i64 E) ∧
   ((E = 140 ∧ Below w.heap.size w w' ∧ arN d.ws * 64 < 2 + (recW X.nx).length) ∨
    (∃ h' rs' d' v', h'.gen ≤ X.h.gen + 1 ∧ Says rs' X.nx ∧ DskAt w' { D with vp := v' } d' ∧ Upd (J :: D.F) w w' ∧ (∀ g, v'.ownBlock = some g → D.vp.ownBlock = some g ∨ w.heap.size ≤ g) ∧ PutRes d X.h X.rs h' rs' E d' ∧ ((E = 0 ∧ JnlAt w' J D.p h' false) ∨ (E = 2 ∧ JnlAt w' J D.p X.h true))))
theorem LayOut.ofPut {w w2 w' : World} {J : Nat} {D : DskP} {d : DskV} {X : StoX} {h' : HeadV} {rs' : List (List UInt8)} {e : Ending} (hb : Below w.heap.size w w2) (hg : h'.gen ≤ X.h.gen + 1) (hr : Says rs' X.nx) (h : PutAny w2 J D d X.h X.rs h' rs' e w') : LayOut w J D d X e w' := by
  obtain ⟨E, d', v', he, h1, h2, h3, h4, h5⟩ := h
  exact ⟨E, he, Or.inr ⟨h', rs', d', v', hg, hr, h1, (Upd.of_below hb).trans h2 (fun _ hx => Or.inl hx), fun g hg => (h3 g hg).imp id (Nat.le_trans hb.size), h4, h5⟩⟩
set_option maxHeartbeats 1600000 in
set_option maxRecDepth 100000 in
theorem slay_any (w : World) (S J C G C' n' : Nat) (D : DskP) (d : DskV) (X : StoX) (hM : StoM w S D.p J C (some G) X) (hD : DskAt w D d) (hs : Settled d) (hi : ImgOk d.ws X.h X.rs) (hr : Says X.rs X.ps) (hp : Rise X.ps ∧ ∀ p ∈ X.ps, okP p = true) (hx : Rise X.nx ∧ ∀ p ∈ X.nx, okP p = true)
    (hn : X.nx.length ≤ 60) (hps : X.ps.length ≤ 60) (hne : X.nx ≠ X.ps) (hg : X.h.gen < 4611686018427387904) (hC : KMap w C' n' (comF X.nx)) (hT : StdX w) :
    Calls Tryz.prog 30 #[.pointer (some ⟨S, 0, none⟩), .map (some C')] w (LayOut w J D d X) := by
  obtain ⟨hGC, m, hmG⟩ := hM.chg.2 G rfl
  have hlts := hM.lts
  have hok := hs.ok
  obtain ⟨RM, hRM⟩ : ∃ RM : Int, max (-1) (min ((arN d.ws * 64 : Nat) - (X.h.used : Int) - 2) 60000) = RM := ⟨_, rfl⟩
  obtain ⟨BR, hBR⟩ : ∃ BR : Int, max (-1) (min ((arN d.ws * 64 : Nat) - ((0 : Nat) : Int) - 2) 60000) = BR := ⟨_, rfl⟩
  have HRM : Hid (∀ W, Below w.heap.size w W → Calls Tryz.prog 49 #[.pointer (some ⟨J, 0, none⟩)] W fun e w' => e = .returned (.int .i64 RM) ∧ W = w') := Lib.hid fun W hW => by
    have := jRoom_any W J D d X.h (hM.jnl.below hW) (hD.below hW) hok hs.live hi.used
    rw [hRM] at this
    exact this
  have HBR : Hid (∀ W, Below w.heap.size w W → Calls Tryz.prog 51 #[.pointer (some ⟨J, 0, none⟩)] W fun e w' => e = .returned (.int .i64 BR) ∧ W = w') := Lib.hid fun W hW => by
    have := jBare_any W J D d X.h (hM.jnl.below hW) (hD.below hW) hok hs.live
    rw [hBR] at this
    exact this
  have HRC : Hid (∀ W, Below w.heap.size w W → Calls Tryz.prog 48 #[.int .i64 0, .map (some G), .int .i64 RM] W fun e w' => ∃ SL ok, e = .returned (.tuple #[.string SL, .bool ok]) ∧ Below W.heap.size W w' ∧ (ok = true → ∃ cs, SL = bOf (recC cs) ∧ RightC X.ps cs ∧ allB X.ps cs = X.nx ∧ X.h.used + 2 + (recC cs).length ≤ arN d.ws * 64 ∧ (recC cs).length ≤ 60000)) := Lib.hid fun W hW => by
    have hmG2 : KMap W G m (fun t k => (foC X.ps X.nx t k).map conV) := by rw [foC_map]; exact hmG.below hW
    refine (recordOf_any W G m (foC X.ps X.nx) (chgPl X.ps X.nx) hmG2 (fun t k _ _ hq => ?_) (by have := chgPl_len X.ps X.nx; omega) (fun t k o ho => ?_) 0 (Or.inl rfl) RM (by omega) (hT.below hW).2).mono ?_
    · rw [mem_chgPl hp.1 hx.1]
      unfold foC at hq
      split at hq
      · cases hq
      · assumption
    · unfold foC at ho
      split at ho
      · cases ho
      · rename_i hne2
        have e := Option.some.inj ho
        cases h1 : lookP X.nx t k with
        | some v =>
          obtain ⟨a, b, c⟩ := look_small hx.1 hx.2 h1
          rw [← e, h1]
          exact ⟨by omega, by omega, by show v.size ≤ _; omega⟩
        | none =>
          cases h2 : lookP X.ps t k with
          | some v =>
            obtain ⟨a, b, c⟩ := look_small hp.1 hp.2 h2
            rw [← e, h1]
            exact ⟨by omega, by omega, by show emB.size ≤ _; decide⟩
          | none => rw [h1, h2] at hne2; exact absurd rfl hne2
    · rintro e w' ⟨L, hL, hb, he⟩
      rw [foC_map] at hL
      obtain ⟨hRC, hall⟩ := right_C hp.1 hx.1 hp.2 hx.2 hL hne (by omega)
      rw [recB_C (mem_risC hp.1 hx.1 hp.2 hx.2 hL)] at he
      have hpos : 1 ≤ (recC (chgsOf X.nx L)).length := by rw [← recB_C (mem_risC hp.1 hx.1 hp.2 hx.2 hL)]; exact recB_pos 0 (Or.inl rfl) _ _
      refine ⟨_, _, he, hb, fun hok2 => ?_⟩
      have h3 := of_decide_eq_true hok2
      refine ⟨chgsOf X.nx L, ?_, hRC, hall, by omega, by omega⟩
      unfold stW
      rw [if_pos h3]
      rfl
  have HRW : Hid (∀ W, Below w.heap.size w W → Calls Tryz.prog 48 #[.int .i64 1, .map (some C'), .int .i64 BR] W fun e w' => ∃ SL ok, e = .returned (.tuple #[.string SL, .bool ok]) ∧ Below W.heap.size W w' ∧ (ok = true → SL = bOf (recW X.nx) ∧ 2 + (recW X.nx).length ≤ arN d.ws * 64 ∧ (recW X.nx).length ≤ 60000) ∧ (ok = false → arN d.ws * 64 < 2 + (recW X.nx).length)) := Lib.hid fun W hW => by
    have hmC2 : KMap W C' n' (fun t k => (foW X.nx t k).map conV) := by rw [foW_map]; exact hC.below hW
    refine (recordOf_any W C' n' (foW X.nx) (ptsL X.nx) hmC2 (fun t k _ _ hq => ?_) (by simp [ptsL]; omega) (fun t k o ho => ?_) 1 (Or.inr rfl) BR (by omega) (hT.below hW).2).mono ?_
    · unfold foW at hq
      rw [Option.isSome_map] at hq
      obtain ⟨v, hv⟩ := Option.isSome_iff_exists.1 hq
      exact look_some_mem hx.1 hv
    · unfold foW at ho
      cases h1 : lookP X.nx t k with
      | some v =>
        obtain ⟨a, b, c⟩ := look_small hx.1 hx.2 h1
        rw [h1] at ho
        have e := Option.some.inj ho
        rw [← e]
        exact ⟨by omega, by omega, by show v.size ≤ _; omega⟩
      | none => rw [h1] at ho; cases ho
    · rintro e w' ⟨L, hL, hb, he⟩
      rw [foW_map] at hL
      have e1 := ris_W hx.1 hx.2 hL
      subst e1
      rw [recB_W hx.1] at he
      have hlen := recW_len hx.2
      refine ⟨_, _, he, hb, fun hok2 => ?_, fun hok2 => ?_⟩
      · have h3 := of_decide_eq_true hok2
        have hpos : 1 ≤ (recW X.nx).length := by rw [← recB_W hx.1]; exact recB_pos 1 (Or.inr rfl) _ _
        refine ⟨?_, by omega, by omega⟩
        unfold stW
        rw [if_pos h3]
        rfl
      · have h3 := of_decide_eq_false hok2
        omega
  have HAP : Hid (∀ W cs, Below w.heap.size w W → RightC X.ps cs → allB X.ps cs = X.nx → X.h.used + 2 + (recC cs).length ≤ arN d.ws * 64 → (recC cs).length ≤ 60000 → Calls Tryz.prog 50 #[.pointer (some ⟨J, 0, none⟩), .string (bOf (recC cs))] W (LayOut w J D d X)) := Lib.hid fun W cs hW hRC hall h1 h2 =>
    (append_any W J D d X.h (hM.jnl.below hW) (hD.below hW) hs X.rs hi (by omega) (recC cs) h2 h1).mono fun e w' hpa => LayOut.ofPut hW (Nat.le_refl _) (by rw [← hall]; exact Says.more hr hRC) hpa
  have HRN : Hid (∀ W, Below w.heap.size w W → 2 + (recW X.nx).length ≤ arN d.ws * 64 → (recW X.nx).length ≤ 60000 → Calls Tryz.prog 52 #[.pointer (some ⟨J, 0, none⟩), .string (bOf (recW X.nx))] W (LayOut w J D d X)) := Lib.hid fun W hW h1 h2 =>
    (renew_any W J D d X.h (hM.jnl.below hW) (hD.below hW) hs X.rs hi (by omega) (recW X.nx) h2 h1).mono fun e w' hpa => LayOut.ofPut hW (Nat.le_refl _) (Says.whole ⟨hx.2, hx.1, by omega⟩) hpa
  have HSC : Hid (∀ W, Below w.heap.size w W → W.cell? ⟨S, 0, none⟩ = some (.pointer (some ⟨J, 0, none⟩)) ∧ W.cell? ⟨S, 2, none⟩ = some (.map (some G))) := Lib.hid fun W hW => by
    have a0 := (hW.block S hlts.1).trans hM.obj
    exact ⟨cell_at a0 (k := 0) rfl, cell_at a0 (k := 2) rfl⟩
  have HDR : Hid (Below w.heap.size w w.drew) := Lib.hid (Below.refl _ w).drew
  clear hM hD hs hi hr hp hx hn hps hne hg hC hT hmG hlts hok hRM hBR hGC
  go_enter Tryz.func30, Tryz.ntmps30
  go_wp2
  go_region_held3 (fun W => W.cell? ⟨S, 0, none⟩ = some (.pointer (some ⟨J, 0, none⟩)) ∧ W.cell? ⟨S, 2, none⟩ = some (.map (some G))) (first | exact KS.out | exact HSC.out _ HDR.out) (first
    | (go_at_call 49; (with_reducible refine (HRM.out _ HDR.out).mono ?_); rintro e w2 ⟨rfl, rfl⟩; dsimp only)
    | (go_at_call 48; (with_reducible refine (HRC.out _ HDR.out).mono ?_); rintro e w2 ⟨SL, ok, rfl, hb2, hq2⟩; have HB2 := Lib.hid (HDR.out.trans hb2); have HQ2 := Lib.hid hq2; have KS := Lib.hid (HSC.out w2 HB2.out); clear hb2 hq2; dsimp only)
    | fail)
  obtain ⟨s0, s2⟩ := KS.out
  cases ok
  · have c0 : ∀ W, Below w.heap.size w W → W.cell? ⟨S, 0, none⟩ = some (.pointer (some ⟨J, 0, none⟩)) := fun W hW => (HSC.out W hW).1
    go_wp2_with fail
    refine (HBR.out _ HB2.out).mono ?_
    rintro e w3 ⟨rfl, rfl⟩
    go_wp2_with fail
    refine (HRW.out _ HB2.out).mono ?_
    rintro e w3 ⟨SL2, ok2, rfl, hb3, hq3, hq4⟩
    have HB3 := Lib.hid (HB2.out.trans (hb3.mono HB2.out.size))
    have HQ3 := Lib.hid (And.intro hq3 hq4)
    have s3 := (HSC.out _ HB3.out).1
    clear hb3 hq3 hq4 c0
    cases ok2
    · have HF := Lib.hid (HQ3.out.2 rfl)
      clear HQ3
      go_wp2
      go_ret
      exact ⟨140, rfl, Or.inl ⟨rfl, HB3.out, HF.out⟩⟩
    · obtain ⟨hSL, h1, h2⟩ := HQ3.out.1 rfl
      subst hSL
      have HP := Lib.hid (HRN.out w3 HB3.out h1 h2)
      clear h1 h2
      go_wp2_with (go_at_call 52; refine HP.out.mono ?_; rintro e w4 ⟨E, rfl, h4⟩; have H4 := Lib.hid h4; clear h4)
      go_ret
      exact ⟨E, rfl, H4.out⟩
  · obtain ⟨cs, hSL, hRC, hall, h1, h2⟩ := HQ2.out rfl
    subst hSL
    have HP := Lib.hid (HAP.out w2 cs HB2.out hRC hall h1 h2)
    clear hRC hall h1 h2
    go_wp2_with (go_at_call 50; refine HP.out.mono ?_; rintro e w3 ⟨E, rfl, h3⟩; have H3 := Lib.hid h3; clear h3)
    go_ret
    exact ⟨E, rfl, H3.out⟩
end Go.Proofs.YtlommddabccdeaaGreatDoor
