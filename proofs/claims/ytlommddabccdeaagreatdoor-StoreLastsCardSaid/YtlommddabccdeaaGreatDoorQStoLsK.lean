/-
  StoCom0, StoCom, StoProg, StoLsK.
-/
import Derived.Test.YtlommddabccdeaaGreatDoorQStoLay
import Derived.Test.YtlommddabccdeaaGreatDoorQStoPut
import Derived.Test.YtlommddabccdeaaGreatDoorQStoAll
import Derived.Test.YtlommddabccdeaaGreatDoorQStoOF
namespace Go.Proofs.YtlommddabccdeaaGreatDoor
open Go.ChangeShapes Go.WideShapes Go.ChangeAt Go.RowKit

def CommitRes (w : World) (S : Nat) (D : DskP) (d : DskV) (FS : List Nat) (X : StoX) (e : Ending) (w' : World) : Prop :=
  ∃ E d' v', e = .returned (.int .i64 E) ∧ DskAt w' { D with vp := v' } d' ∧ Upd (FS ++ D.F) w w' ∧ (∀ g, v'.ownBlock = some g → D.vp.ownBlock = some g ∨ w.heap.size ≤ g) ∧ (d'.ws.length = d.ws.length ∧ (d.armed = 0 → E ≠ 2) ∧ (E = 140 → arN d.ws * 64 < 2 + (recW X.nx).length)) ∧
    ((E = 0 ∧ ∃ FS' X', StoOk w' S { D with vp := v' } d' FS' X' ∧ (∀ k ∈ FS', k ∈ FS ∨ w.heap.size ≤ k) ∧ X'.ps = X.nx ∧ X'.opn = false ∧ X'.h.gen ≤ X.h.gen + 1) ∨
     (E = 140 ∧ ∃ FS' X', StoOk w' S { D with vp := v' } d' FS' X' ∧ (∀ k ∈ FS', k ∈ FS ∨ w.heap.size ≤ k) ∧ X'.ps = X.ps ∧ X'.opn = false ∧ X'.h.gen ≤ X.h.gen + 1) ∨
     (E = 2 ∧ DskOk d' ∧ d'.dead = true ∧ ∀ img, Mixed d' img → ∃ h rs ps, ImgOk img h rs ∧ Says rs ps ∧ (ps = X.ps ∨ ps = X.nx) ∧ h.gen ≤ X.h.gen + 1))
section
variable {w : World} {S J C G : Nat} {D : DskP} {d : DskV} {X : StoX}
theorem forgot_ok (h : StoOk w S D d (S :: J :: C :: (some G).toList) X) (hM : StoM w S D.p J C (some G) X) {w1 : World} (hb : Below w.heap.size w w1) :
    StoOk (w1.setCell ⟨S, 2, none⟩ (.map none)) S D d (S :: J :: C :: (none : Option Nat).toList) { X with opn := false } ∧ Upd ((S :: J :: C :: (some G).toList) ++ D.F) w (w1.setCell ⟨S, 2, none⟩ (.map none)) := by
  obtain ⟨l1, l2, l3, l4⟩ := hM.lts
  obtain ⟨n1, n2, n3, n4⟩ := hM.ne
  have hS := (hb.block S l1).trans hM.obj
  have hSD : S ∉ D.F := h.apart S (by simp)
  have hk : ∀ k, k ≠ S → k < w.heap.size → (w1.setCell ⟨S, 2, none⟩ (.map none)).heap[k]? = w.heap[k]? := fun k hn hl => by
    rw [Below.heap_setCell _ _ _ _ (by show k ≠ S; exact hn)]
    exact hb.block k hl
  refine ⟨⟨⟨J, C, none, hM.changed (by rw [heap_set_at hS]; rfl) (fun k hk2 => hk k (by rcases hk2 with rfl | rfl <;> omega) (by rcases hk2 with rfl | rfl <;> assumption)) ⟨rfl, nofun⟩, rfl⟩, h.dsk.kept fun k hk2 => hk k (fun e => hSD (e ▸ hk2)) (h.dsk.lt k hk2), h.set, h.img, h.rds, h.rise, nofun, fun k hk2 => h.apart k (by simp at hk2 ⊢; rcases hk2 with e | e | e <;> simp [e])⟩, ?_⟩
  exact (Upd.of_below hb).setCell (p := ⟨S, 2, none⟩) (Or.inl (by simp)) _
theorem com_same (h : StoOk w S D d (S :: J :: C :: (some G).toList) X) (hM : StoM w S D.p J C (some G) X) {w1 : World} (hb : Below w.heap.size w w1) (he : X.ps = X.nx) : CommitRes w S D d (S :: J :: C :: (some G).toList) X (.returned (.int .i64 0)) (w1.setCell ⟨S, 2, none⟩ (.map none)) := by
  obtain ⟨h1, h2⟩ := forgot_ok h hM hb
  exact ⟨0, d, D.vp, rfl, h1.dsk, h2, fun g hg => Or.inl hg, ⟨rfl, fun _ => by decide, fun e => by cases e⟩, Or.inl ⟨rfl, _, _, h1, fun k hk => Or.inl (by simp at hk ⊢; rcases hk with e | e | e <;> simp [e]), he, rfl, Nat.le_succ _⟩⟩
theorem com_full (h : StoOk w S D d (S :: J :: C :: (some G).toList) X) (hM : StoM w S D.p J C (some G) X) {w1 : World} (hb : Below w.heap.size w w1) (hf : arN d.ws * 64 < 2 + (recW X.nx).length) : CommitRes w S D d (S :: J :: C :: (some G).toList) X (.returned (.int .i64 140)) (w1.setCell ⟨S, 2, none⟩ (.map none)) := by
  obtain ⟨h1, h2⟩ := forgot_ok h hM hb
  exact ⟨140, d, D.vp, rfl, h1.dsk, h2, fun g hg => Or.inl hg, ⟨rfl, fun _ => by decide, fun _ => hf⟩, Or.inr (Or.inl ⟨rfl, _, _, h1, fun k hk => Or.inl (by simp at hk ⊢; rcases hk with e | e | e <;> simp [e]), rfl, rfl, Nat.le_succ _⟩)⟩
theorem com_laid (h : StoOk w S D d (S :: J :: C :: (some G).toList) X) (ho : X.opn = true) (hl : X.nx.length ≤ 500) (hM : StoM w S D.p J C (some G) X) {w2 w3 : World} {C' n' : Nat} (hb : Below w.heap.size w w2) (hge : w.heap.size ≤ C') (hC : KMap w2 C' n' (comF X.nx)) {h' : HeadV} {rs' : List (List UInt8)} {d' : DskV} {v' : Value} {E : Int}
    (hgen : h'.gen ≤ X.h.gen + 1) (hr : Says rs' X.nx) (hD : DskAt w3 { D with vp := v' } d') (hu : Upd (J :: D.F) w2 w3) (hv : ∀ g, v'.ownBlock = some g → D.vp.ownBlock = some g ∨ w2.heap.size ≤ g) (hp : PutRes d X.h X.rs h' rs' E d') (hj : (E = 0 ∧ JnlAt w3 J D.p h' false) ∨ (E = 2 ∧ JnlAt w3 J D.p X.h true)) :
    w3.heap[S]? = w.heap[S]? ∧ (E = 2 → CommitRes w S D d (S :: J :: C :: (some G).toList) X (.returned (.int .i64 2)) (w3.setCell ⟨S, 2, none⟩ (.map none))) ∧
    (E = 0 → CommitRes w S D d (S :: J :: C :: (some G).toList) X (.returned (.int .i64 0)) ((w3.setCell ⟨S, 1, none⟩ (.map (some C'))).setCell ⟨S, 2, none⟩ (.map none))) := by
  obtain ⟨l1, l2, l3, l4⟩ := hM.lts
  obtain ⟨n1, n2, n3, n4⟩ := hM.ne
  have hSD : S ∉ D.F := h.apart S (by simp)
  have hS3 : w3.heap[S]? = w.heap[S]? := by
    rw [hu.block S (Nat.lt_of_lt_of_le l1 hb.size) (by simp [n1]; exact hSD)]
    exact hb.block S l1
  have hz2 := hb.size
  have hSv : S ∉ ({ D with vp := v' } : DskP).F := fun hx => by
    simp [DskP.F] at hx hSD
    rcases hx with e | e | e | e
    · exact hSD.1 e
    · exact hSD.2.1 e
    · exact hSD.2.2.1 e
    · rcases hv _ e with h9 | h9
      · exact hSD.2.2.2 h9
      · omega
  have hvw : ∀ g, v'.ownBlock = some g → D.vp.ownBlock = some g ∨ w.heap.size ≤ g := fun g hg => (hv g hg).imp id (Nat.le_trans hz2)
  have hUa : Upd ((S :: J :: C :: (some G).toList) ++ D.F) w w3 := (Upd.of_below hb).trans hu fun x hx => by
    left
    rcases List.mem_cons.1 hx with e | e
    · simp [e]
    · exact List.mem_append_right _ e
  refine ⟨hS3, fun e2 => ?_, fun e0 => ?_⟩
  · subst e2
    refine ⟨2, d', v', rfl, hD.kept fun k hk => Below.heap_setCell _ _ _ _ (fun e => hSv (by have e9 : k = S := e; rw [← e9]; exact hk)), hUa.setCell (p := ⟨S, 2, none⟩) (Or.inl (by simp)) _, hvw, ⟨hp.1.1, hp.1.2, fun e => by cases e⟩, Or.inr (Or.inr ?_)⟩
    rcases hp.2 with ⟨e, _⟩ | ⟨_, p1, p2, p3⟩
    · cases e
    · refine ⟨rfl, p1, p2, fun img hm => ?_⟩
      rcases p3 img hm with p4 | p4
      · exact ⟨_, _, _, p4, h.rds, Or.inl rfl, Nat.le_succ _⟩
      · exact ⟨_, _, _, p4, hr, Or.inr rfl, hgen⟩
  · subst e0
    have hj3 : JnlAt w3 J D.p h' false := by
      rcases hj with ⟨_, h9⟩ | ⟨e, _⟩
      · exact h9
      · cases e
    obtain ⟨p1, p2⟩ : Settled d' ∧ ImgOk d'.ws h' rs' := by
      rcases hp.2 with ⟨_, p1, p2⟩ | ⟨e, _⟩
      · exact ⟨p1, p2⟩
      · cases e
    have hS := hS3.trans hM.obj
    have hS4 := heap_set_at (k := 2) (heap_set_at (k := 1) hS (.map (some C'))) (.map none)
    have hC2 := hC.lt
    have hCD : C' ∉ J :: D.F := fun hx => by
      rcases List.mem_cons.1 hx with e | e
      · omega
      · have := h.dsk.lt _ e; omega
    have keep : ∀ k, k ≠ S → ((w3.setCell ⟨S, 1, none⟩ (.map (some C'))).setCell ⟨S, 2, none⟩ (.map none)).heap[k]? = w3.heap[k]? := fun k hk => by
      rw [Below.heap_setCell _ _ _ _ (by show k ≠ S; exact hk), Below.heap_setCell _ _ _ _ (by show k ≠ S; exact hk)]
    have hCv : C' ∉ ({ D with vp := v' } : DskP).F := fun hx => by
      have hD0 : ∀ k ∈ D.F, k < w.heap.size := h.dsk.lt
      simp [DskP.F] at hx hD0
      rcases hx with e | e | e | e
      · have := hD0.1; omega
      · have := hD0.2.1; omega
      · have := hD0.2.2.1; omega
      · rcases hv _ e with h9 | h9
        · have := hD0.2.2.2 _ h9; omega
        · omega
    refine ⟨0, d', v', rfl, hD.kept fun k hk => keep k (fun e => hSv (e ▸ hk)), (hUa.setCell (p := ⟨S, 1, none⟩) (Or.inl (by simp)) _).setCell (p := ⟨S, 2, none⟩) (Or.inl (by simp)) _, hvw, ⟨hp.1.1, fun _ => by decide, fun e => by cases e⟩, Or.inl ⟨rfl, S :: J :: C' :: (none : Option Nat).toList, ⟨h', rs', X.nx, X.nx, false⟩, ⟨⟨J, C', none, ⟨by rw [hS4]; rfl, (keep J (by omega)).trans hj3, ⟨n', (hC.same (hu.block C' hC2 hCD)).same (keep C' (by omega))⟩, rfl, nofun⟩, rfl⟩, hD.kept fun k hk => keep k (fun e => hSv (e ▸ hk)), p1, p2, hr, ⟨(h.nrise ho).1, (h.nrise ho).2, hl⟩, nofun, fun k hk hx => ?_⟩, fun k hk => ?_, rfl, rfl, hgen⟩⟩
    · simp at hk
      rcases hk with rfl | rfl | rfl
      · exact hSv hx
      · exact jnl_apart (D := { D with vp := v' }) hj3 hD hx
      · exact hCv hx
    · simp at hk
      rcases hk with rfl | rfl | rfl
      · left; simp
      · left; simp
      · right; exact hge
end
end Go.Proofs.YtlommddabccdeaaGreatDoor

namespace Go.Proofs.YtlommddabccdeaaGreatDoor
open Go.ChangeShapes Go.WideShapes Go.ChangeAt Go.RowKit

theorem chg_none {w : World} {G m : Nat} {ps nx : List PairV} (hp : Rise ps) (op : ∀ p ∈ ps, okP p = true) (hx : Rise nx) (ox : ∀ p ∈ nx, okP p = true) (h : KMap w G m (chgF ps nx)) : m = 0 ↔ ps = nx := by
 constructor
 ·intro h0
  refine look_ext hp hx fun t k => ?_
  false_or_by_contra
  rename_i hn
  have hs : (chgF ps nx t k).isSome = true := by
   unfold chgF
   rw [if_neg (fun e => hn e.symm)]
   rfl
  have hz : t.size ≤ maxLen ∧ k.size ≤ maxLen := by
   have hmax : 32 ≤ maxLen := by unfold maxLen; omega
   cases h1 : lookP ps t k with
   | some v =>
    obtain ⟨a, b, _⟩ := look_small hp op h1
    exact ⟨Nat.le_trans a hmax, Nat.le_trans b hmax⟩
   | none =>
    cases h2 : lookP nx t k with
    | some v =>
     obtain ⟨a, b, _⟩ := look_small hx ox h2
     exact ⟨Nat.le_trans a hmax, Nat.le_trans b hmax⟩
    | none => rw [h1, h2] at hn; exact absurd rfl hn
  have := h.ge [(t, k)] (by simp) (fun x hx => by
   rw [List.mem_singleton.1 hx]
   exact ⟨hz.1, hz.2, hs⟩)
  simp at this
  omega
 ·rintro rfl
  have := h.le [] fun t k _ _ hs => by rw [chgF_same] at hs; cases hs
  simp at this
  exact this
set_option maxHeartbeats 1600000 in
set_option maxRecDepth 100000 in
theorem commit_any (w : World) (S : Nat) (D : DskP) (d : DskV) (FS : List Nat) (X : StoX) (h : StoOk w S D d FS X) (ho : X.opn = true) (hg : X.h.gen < 4611686018427387904) (hn : X.nx.length ≤ 60) (hps : X.ps.length ≤ 60) (hT : StdX w) :
  Calls Tryz.prog 15 #[.pointer (some ⟨S, 0, none⟩)] w (CommitRes w S D d FS X) := by
 obtain ⟨J, C, og, hM, rfl⟩ := h.sto
 obtain ⟨G, rfl⟩ : ∃ G, og = some G := by
  have := hM.chg.1
  rw [ho] at this
  cases og with
  | none => cases this
  | some G => exact ⟨G, rfl⟩
 obtain ⟨hGC, m, hmG⟩ := hM.chg.2 G rfl
 obtain ⟨n, hmC⟩ := hM.com
 obtain ⟨hx, ox⟩ := h.nrise ho
 obtain ⟨hp, op, _⟩ := h.rise
 have hno := chg_none hp op hx ox hmG
 have HCK : Hid (∀ W, Below w.heap.size w W → Calls Tryz.prog 25 #[.pointer (some ⟨S, 0, none⟩), .bool true] W fun e w' => e = .returned (.int .i64 0) ∧ W = w') := Lib.hid fun W hW => by
  have := scheck_any W S J C (some G) D d X (hM.kept fun k hk => hW.block k (h.sto.lt k hk)) (h.dsk.below hW) h.set.live true
  rw [if_pos ho.symm] at this
  exact this
 have HWT : Hid (∀ W, Below w.heap.size w W → Calls Tryz.prog 29 #[.map (some C), .map (some G)] W fun e w' => ∃ C' n', e = .returned (.map (some C')) ∧ W.heap.size ≤ C' ∧ KMap w' C' n' (comF X.nx) ∧ Below W.heap.size W w') := Lib.hid fun W hW =>
  with_any W C G n m X.ps X.nx hp hx (by omega) (hmC.below hW) (hmG.below hW)
 have HLN : Hid (∀ W, Below w.heap.size w W → ∀ ty, (Builtin.len_ #[59] ty #[.map (some G)]).run Tryz.prog W = .ok (.int .i64 m) W) := Lib.hid fun W hW ty => (hmG.below hW).len Tryz.underlying59 ty
 have HLY : Hid (∀ W C' n', Below w.heap.size w W → X.nx ≠ X.ps → KMap W C' n' (comF X.nx) → Calls Tryz.prog 30 #[.pointer (some ⟨S, 0, none⟩), .map (some C')] W (LayOut W J D d X)) := Lib.hid fun W C' n' hW hne hC =>
  slay_any W S J C G C' n' D d X (hM.kept fun k hk => hW.block k (h.sto.lt k hk)) (h.dsk.below hW) h.set h.img h.rds ⟨hp, op⟩ ⟨hx, ox⟩ hn hps hne hg hC (hT.below hW)
 have HNL : Hid (∀ W C' n', KMap W C' n' (comF X.nx) → n' ≤ 60) := Lib.hid fun W C' n' hC => by
  have := hC.le (ptsL X.nx) fun t k _ _ hs => by
   unfold comF at hs
   rw [Option.isSome_map] at hs
   obtain ⟨v, hv⟩ := Option.isSome_iff_exists.1 hs
   exact look_some_mem hx hv
  simp [ptsL] at this
  omega
 have HSC : Hid (∀ W, Below w.heap.size w W → W.heap[S]? = some (.cells #[.pointer (some ⟨J, 0, none⟩), .map (some C), .map (some G)] 61 (0, 0))) := Lib.hid fun W hW => (hW.block S hM.lts.1).trans hM.obj
 have HSM : Hid (∀ W, Below w.heap.size w W → X.ps = X.nx → CommitRes w S D d (S :: J :: C :: (some G).toList) X (.returned (.int .i64 0)) (W.setCell ⟨S, 2, none⟩ (.map none))) := Lib.hid fun W hW he => com_same h hM hW he
 have HFU : Hid (∀ W, Below w.heap.size w W → arN d.ws * 64 < 2 + (recW X.nx).length → CommitRes w S D d (S :: J :: C :: (some G).toList) X (.returned (.int .i64 140)) (W.setCell ⟨S, 2, none⟩ (.map none))) := Lib.hid fun W hW hf => com_full h hM hW hf
 have HLD := Lib.hid (fun (w2 w3 : World) (C' n' : Nat) (h' : HeadV) (rs' : List (List UInt8)) (d' : DskV) (v' : Value) (E : Int) => com_laid (w2 := w2) (w3 := w3) (C' := C') (n' := n') (h' := h') (rs' := rs') (d' := d') (v' := v') (E := E) h ho (by omega) hM)
 have HNO := Lib.hid hno
 clear h ho hg hn hps hT hM hGC hmG hmC hx ox hp op hno
 have HDR : Hid (Below w.heap.size w w.drew) := Lib.hid (Below.refl _ w).drew
 have HRF : Hid (Below w.heap.size w w) := Lib.hid (Below.refl _ w)
 have hln := HLN.out w HRF.out
 have hS := HSC.out w HRF.out
 have c1 := cell_at hS (k := 1) rfl
 have c2 := cell_at hS (k := 2) rfl
 clear HLN
 go_enter_defers Tryz.func15, Tryz.ntmps15
 rcases Nat.eq_zero_or_pos m with hm | hm
 ·have HEQ := Lib.hid (HNO.out.1 hm)
  clear HNO
  subst hm
  go_wp2_with (go_at_call 25; refine (HCK.out _ HRF.out).mono ?_; rintro e w2 ⟨rfl, rfl⟩)
  refine leaves_cons (f := 28) (args := #[.pointer (some ⟨S, 0, none⟩)]) (by simp) (by simp [go_sem]) ?_
  refine (forget_d _ _ S J C (some G) hS).mono ?_
  rintro e u' w'' ⟨rfl, rfl, rfl⟩
  have HF := Lib.hid (HSM.out _ HRF.out HEQ.out)
  simp [Leaves, settle, results, Tryz.results15, go_sem]
  exact HF.out
 ·have hne : Hid (X.nx ≠ X.ps) := Lib.hid fun e => by have := HNO.out.2 e.symm; omega
  obtain ⟨MN, hMN⟩ : ∃ MN : Int, (m : Int) = MN := ⟨_, rfl⟩
  have q1 : 0 < MN := by omega
  rw [hMN] at hln
  clear hMN hm HNO HSM
  go_wp2_with (go_at_call 25; refine (HCK.out _ HRF.out).mono ?_; rintro e w2 ⟨rfl, rfl⟩)
  have HS2 : Hid (∀ W, Below w.heap.size w W → W.cell? ⟨S, 1, none⟩ = some (.map (some C)) ∧ W.cell? ⟨S, 2, none⟩ = some (.map (some G))) := Lib.hid fun W hW => ⟨cell_at (HSC.out W hW) (k := 1) rfl, cell_at (HSC.out W hW) (k := 2) rfl⟩
  clear c1 c2 hS
  go_region_held3 (fun W => W.cell? ⟨S, 1, none⟩ = some (.map (some C)) ∧ W.cell? ⟨S, 2, none⟩ = some (.map (some G))) (first | exact KS.out | exact HS2.out _ HDR.out) (first
   | (go_at_call 29; (with_reducible refine (HWT.out _ HDR.out).mono ?_); rintro e w2 ⟨C', n', rfl, hc1, hc2, hb2⟩; have HB2 := Lib.hid (HDR.out.trans hb2); have HC2 := Lib.hid (And.intro hc1 hc2); have KS := Lib.hid (HS2.out w2 HB2.out); clear hc1 hc2 hb2; dsimp only)
   | fail)
  clear KS
  have HK2 : Hid (w.heap.size ≤ C' ∧ KMap w2 C' n' (comF X.nx)) := Lib.hid HC2.out
  clear HC2
  have hl2 : ∀ ty, (Builtin.len_ #[59] ty #[.map (some C')]).run Tryz.prog w2 = .ok (.int .i64 n') w2 := fun ty => HK2.out.2.len Tryz.underlying59 ty
  obtain ⟨NN, hNN⟩ : ∃ NN : Int, (n' : Int) = NN := ⟨_, rfl⟩
  have q2 : NN ≤ 500 := by have := HNL.out _ _ _ HK2.out.2; omega
  rw [hNN] at hl2
  have HL2 := Lib.hid (HLY.out w2 C' n' HB2.out hne.out HK2.out.2)
  clear hNN HLY HWT HNL hln
  go_wp2_with fail
  refine HL2.out.mono ?_
  rintro e w3 ⟨E, rfl, hE⟩
  rcases hE with ⟨rfl, hb3, hf3⟩ | ⟨h', rs', d', v', a1, a2, a3, a4, a5, a6, a7⟩
  ·have HB3 := Lib.hid (HB2.out.trans (hb3.mono HB2.out.size))
   have HF3 := Lib.hid hf3
   clear hb3 hf3
   go_wp2
   refine leaves_cons (f := 28) (args := #[.pointer (some ⟨S, 0, none⟩)]) (by simp) (by simp [go_sem]) ?_
   refine (forget_d _ _ S J C (some G) (HSC.out _ HB3.out)).mono ?_
   rintro e u' w'' ⟨rfl, rfl, rfl⟩
   have HF := Lib.hid (HFU.out _ HB3.out HF3.out)
   simp [Leaves, settle, results, Tryz.results15, go_sem]
   exact HF.out
  ·obtain ⟨b1, b2, b3⟩ := HLD.out w2 w3 C' n' h' rs' d' v' E HB2.out HK2.out.1 HK2.out.2 a1 a2 a3 a4 a5 a6 a7
   have hS3 := b1.trans (HSC.out w HRF.out)
   have hE2 : E = 0 ∨ E = 2 := by
    rcases a7 with ⟨e, _⟩ | ⟨e, _⟩
    ·exact Or.inl e
    ·exact Or.inr e
   clear a1 a2 a3 a4 a5 a6 a7 b1
   rcases hE2 with rfl | rfl
   ·have HF := Lib.hid (b3 rfl)
    clear b2 b3
    have c3 := cell_at hS3 (k := 1) rfl
    have f3 := free_at hS3 (k := 1)
    have hS4 := heap_set_at (k := 1) hS3 (.map (some C'))
    go_wp2
    refine leaves_cons (f := 28) (args := #[.pointer (some ⟨S, 0, none⟩)]) (by simp) (by simp [go_sem]) ?_
    refine (forget_d _ _ S J C' (some G) hS4).mono ?_
    rintro e u' w'' ⟨rfl, rfl, rfl⟩
    simp [Leaves, settle, results, Tryz.results15, go_sem]
    exact HF.out
   ·have HF := Lib.hid (b2 rfl)
    clear b2 b3
    go_wp2
    refine leaves_cons (f := 28) (args := #[.pointer (some ⟨S, 0, none⟩)]) (by simp) (by simp [go_sem]) ?_
    refine (forget_d _ _ S J C (some G) hS3).mono ?_
    rintro e u' w'' ⟨rfl, rfl, rfl⟩
    simp [Leaves, settle, results, Tryz.results15, go_sem]
    exact HF.out
end Go.Proofs.YtlommddabccdeaaGreatDoor

namespace Go.Proofs.YtlommddabccdeaaGreatDoor
open Go.ChangeShapes Go.WideShapes Go.ChangeAt Go.RowKit

def StdO (w : World) : Prop := StdX w
theorem StdO.below {w w' : World} (h : StdO w) (hb : Below w.heap.size w w') : StdO w' := StdX.below h hb
end Go.Proofs.YtlommddabccdeaaGreatDoor

namespace Go.Proofs.YtlommddabccdeaaGreatDoor
open Go.ChangeShapes Go.WideShapes Go.ChangeAt Go.RowKit

def TurnsAt (w : World) (x : Option Addr) (us : List TurnV) : Prop :=
 ∀ k (h : k < us.length), ∃ b off, x = some ⟨b, off, none⟩ ∧ b < w.heap.size ∧ w.cell? ⟨b, off + k * 5, none⟩ = some (.int .i64 us[k].t) ∧ w.cell? ⟨b, off + k * 5 + 1, none⟩ = some (.int .i64 us[k].k) ∧ w.cell? ⟨b, off + k * 5 + 2, none⟩ = some (.string us[k].v) ∧ w.cell? ⟨b, off + k * 5 + 3, none⟩ = some (.bool us[k].gone) ∧ w.cell? ⟨b, off + k * 5 + 4, none⟩ = some (.bool us[k].ends)
theorem TurnsAt.below {w w' : World} {x : Option Addr} {us : List TurnV} (h : TurnsAt w x us) (hb : Below w.heap.size w w') : TurnsAt w' x us := fun k hk => by
 obtain ⟨b, off, e, hl, c0, c1, c2, c3, c4⟩ := h k hk
 exact ⟨b, off, e, Nat.lt_of_lt_of_le hl hb.size, by rw [hb.cell (p := ⟨b, _, none⟩) hl]; exact c0, by rw [hb.cell (p := ⟨b, _, none⟩) hl]; exact c1, by rw [hb.cell (p := ⟨b, _, none⟩) hl]; exact c2, by rw [hb.cell (p := ⟨b, _, none⟩) hl]; exact c3, by rw [hb.cell (p := ⟨b, _, none⟩) hl]; exact c4⟩
def IntsAt (w : World) (x : Option Addr) (ns : List Int) : Prop :=
 ∀ k (h : k < ns.length), ∃ b off, x = some ⟨b, off, none⟩ ∧ b < w.heap.size ∧ w.cell? ⟨b, off + k, none⟩ = some (.int .i64 ns[k])
theorem IntsAt.below {w w' : World} {x : Option Addr} {ns : List Int} (h : IntsAt w x ns) (hb : Below w.heap.size w w') : IntsAt w' x ns := fun k hk => by
 obtain ⟨b, off, e, hl, c0⟩ := h k hk
 exact ⟨b, off, e, Nat.lt_of_lt_of_le hl hb.size, by rw [hb.cell (p := ⟨b, _, none⟩) hl]; exact c0⟩
def In64 (n : Int) : Prop := -9223372036854775808 ≤ n ∧ n ≤ 9223372036854775807
def TurnOk (x : TurnV) : Prop := In64 x.t ∧ In64 x.k ∧ x.v.size ≤ maxLen

structure Frm (w0 w : World) (F : List Nat) : Prop where
 bel : Below w0.heap.size w0 w
 far : ∀ k ∈ F, w0.heap.size ≤ k
theorem Frm.step {w0 w w' : World} {F F' : List Nat} (h : Frm w0 w F) (hu : Upd F w w') (hF : ∀ k ∈ F', k ∈ F ∨ w.heap.size ≤ k) : Frm w0 w' F' :=
 ⟨h.bel.trans (hu.below h.far h.bel.size), fun k hk => by
  rcases hF k hk with h1 | h1
  ·exact h.far k h1
  ·exact Nat.le_trans h.bel.size h1⟩
structure FarP (w : World) (F : List Nat) (x : Option Addr) (ps : List PairV) : Prop where
 prs : PrsAt w x ps
 far : ∀ b off, x = some ⟨b, off, none⟩ → b < w.heap.size ∧ b ∉ F
theorem FarP.step {w w' : World} {F F' : List Nat} {x : Option Addr} {ps : List PairV} (h : FarP w F x ps) (hu : Upd F w w') (hF : ∀ k ∈ F', k ∈ F ∨ w.heap.size ≤ k) : FarP w' F' x ps where
 prs := fun k hk => by
  obtain ⟨b, off, e, hl, c0, c1, c2⟩ := h.prs k hk
  have hn := (h.far b off e).2
  exact ⟨b, off, e, Nat.lt_of_lt_of_le hl hu.size, by rw [hu.cell hl hn]; exact c0, by rw [hu.cell hl hn]; exact c1, by rw [hu.cell hl hn]; exact c2⟩
 far := fun b off e => by
  obtain ⟨hl, hn⟩ := h.far b off e
  refine ⟨Nat.lt_of_lt_of_le hl hu.size, fun hm => ?_⟩
  rcases hF b hm with h1 | h1
  ·exact hn h1
  ·omega
theorem FarP.nil_ (w : World) (F : List Nat) : FarP w F none [] := ⟨PrsAt.nil_ _ _, fun b off e => by cases e⟩
theorem OwnP.someS {w0 w : World} {v : Value} {ps : List PairV} (h : OwnP w0 w v ps) : ∃ x c, v = .slice x ps.length c ∧ PrsAt w x ps ∧ ps.length ≤ c := by
 obtain ⟨x, c, e, hp⟩ := h.prs
 refine ⟨x, c, e, hp, ?_⟩
 rcases h.own.2 with ⟨h1, h2⟩ | ⟨g, cap, cur, h1, _, _, h4, _⟩
 ·omega
 ·rw [e] at h1
  injection h1 with _ _ e3
  omega
theorem OwnP.farP {w w' : World} {v : Value} {ps : List PairV} (h : OwnP w w' v ps) {F : List Nat} (hF : ∀ k ∈ F, k < w.heap.size) : ∃ x c, v = .slice x ps.length c ∧ ps.length ≤ c ∧ FarP w' F x ps := by
 obtain ⟨x, c, rfl, hp, hc⟩ := h.someS
 exact ⟨x, c, rfl, hc, hp, fun b off e => by
  obtain ⟨h1, h2⟩ := h.own.lt b (by rw [e]; rfl)
  exact ⟨h2, fun hm => by have := hF b hm; omega⟩⟩
structure LsAt (w0 w : World) (P S : Nat) (ax : Option Addr) (now : List PairV) (bx : Option Addr) (next xs : List PairV) (b : Bool) (t : Nat) (D : DskP) (d : DskV) (FS : List Nat) (X : StoX) : Prop where
 p : D.p = P
 ok : StoOk w S D d FS X
 frm : Frm w0 w (FS ++ D.F)
 fa : FarP w (FS ++ D.F) ax now
 fb : FarP w (FS ++ D.F) bx next
 ps : X.ps = now
 opn : X.opn = b
 nx : b = true → X.nx = xs
 clo : b = false → xs = now
 rx : Rise xs ∧ ∀ p ∈ xs, okP p = true
 of : Of60 now ∧ Of60 xs
 gen : X.h.gen ≤ t
section
variable {w0 w w' : World} {P S t : Nat} {ax bx : Option Addr} {now next xs : List PairV} {b : Bool} {D : DskP} {d : DskV} {FS FS' : List Nat} {X X' : StoX}
theorem LsAt.rise (h : LsAt w0 w P S ax now bx next xs b t D d FS X) : Rise now := by rw [← h.ps]; exact h.ok.rise.1
theorem StoOk.lt (h : StoOk w S D d FS X) : ∀ k ∈ FS ++ D.F, k < w.heap.size := fun k hk => by
 rcases List.mem_append.1 hk with h1 | h1
 ·exact h.sto.lt k h1
 ·exact h.dsk.lt k h1
theorem LsAt.after (h : LsAt w0 w P S ax now bx next xs b t D d FS X) (hb : Below w.heap.size w w') : LsAt w0 w' P S ax now bx next xs b t D d FS X where
 p := h.p
 ok := { h.ok with sto := h.ok.sto.kept fun k hk => hb.block k (h.ok.sto.lt k hk), dsk := h.ok.dsk.below hb }
 frm := h.frm.step (Upd.of_below hb) (fun _ hk => .inl hk)
 fa := h.fa.step (Upd.of_below hb) (fun _ hk => .inl hk)
 fb := h.fb.step (Upd.of_below hb) (fun _ hk => .inl hk)
 ps := h.ps
 opn := h.opn
 nx := h.nx
 clo := h.clo
 rx := h.rx
 of := h.of
 gen := h.gen
theorem LsAt.sto (h : LsAt w0 w P S ax now bx next xs b t D d FS X) (hs : StoStep w S D.p FS X' w') (e1 : X'.h = X.h) (e2 : X'.rs = X.rs) (e3 : X'.ps = X.ps) {b' : Bool} {xs' : List PairV} (e4 : X'.opn = b') (e5 : b' = true → X'.nx = xs') (e6 : b' = false → xs' = now) (hr : Rise xs' ∧ ∀ p ∈ xs', okP p = true) (ho : Of60 xs') :
  ∃ FS', LsAt w0 w' P S ax now bx next xs' b' t D d FS' X' := by
 obtain ⟨FS', h1, h2, h3⟩ := hs
 have hu : Upd (FS ++ D.F) w w' := h2.mono fun k hk => List.mem_append_left _ hk
 have hF : ∀ k ∈ FS' ++ D.F, k ∈ FS ++ D.F ∨ w.heap.size ≤ k := fun k hk => by
  rcases List.mem_append.1 hk with h4 | h4
  ·rcases h3 k h4 with h5 | h5
   ·exact .inl (List.mem_append_left _ h5)
   ·exact .inr h5
  ·exact .inl (List.mem_append_right _ h4)
 have hap : ∀ k ∈ FS', k ∉ D.F := fun k hk hd => by
  rcases h3 k hk with h5 | h5
  ·exact h.ok.apart k h5 hd
  ·have := h.ok.dsk.lt k hd; omega
 refine ⟨FS', h.p, ⟨h1, h.ok.dsk.kept fun k hk => h2.block k (h.ok.dsk.lt k hk) (fun hm => h.ok.apart k hm hk), h.ok.set, ?_, ?_, ?_, fun q => ?_, hap⟩, h.frm.step hu hF, h.fa.step hu hF, h.fb.step hu hF, by rw [e3]; exact h.ps, e4, e5, e6, hr, ⟨h.of.1, ho⟩, by rw [e1]; exact h.gen⟩
 ·rw [e1, e2]; exact h.ok.img
 ·rw [e2, e3]; exact h.ok.rds
 ·rw [e3]; exact h.ok.rise
 ·rw [e5 (e4.symm.trans q)]; exact hr
theorem LsAt.behind (h : LsAt w0 w P S ax now bx next xs b t D d FS X) {v : Value} (ho : OwnP w w' v xs) : ∃ x c, v = .slice x xs.length c ∧ xs.length ≤ c ∧ LsAt w0 w' P S ax now x xs xs b t D d FS X := by
 have h2 := h.after ho.below
 obtain ⟨x, c, e, hc, hf⟩ := ho.farP (F := FS ++ D.F) h.ok.lt
 exact ⟨x, c, e, hc, { h2 with fb := hf }⟩
theorem LsAt.arm (h : LsAt w0 w P S ax now bx next xs b t D d FS X) {n : Nat} (hn : n ≤ 9223372036854775807) (h1 : DskAt w' D { d with armed := n }) (h2 : But D.p w w') : LsAt w0 w' P S ax now bx next xs b t D { d with armed := n } FS X := by
 have hpF : D.p ∈ D.F := List.mem_cons_self
 have hu : Upd (FS ++ D.F) w w' := (Upd.of_but h2).mono fun k hk => by
  have : k = D.p := by simpa using hk
  rw [this]; exact List.mem_append_right _ hpF
 have hk : ∀ k ∈ FS, w'.heap[k]? = w.heap[k]? := fun k hk => (Upd.of_but h2).block k (h.ok.sto.lt k hk) (fun hm => by
  have : k = D.p := by simpa using hm
  exact h.ok.apart k hk (by rw [this]; exact hpF))
 have hs := h.ok.set
 exact ⟨h.p, ⟨h.ok.sto.kept hk, h1, ⟨{ hs.ok with arm := hn, ali := fun q => by rw [show ({ d with armed := n } : DskV).dead = d.dead from rfl, hs.live] at q; cases q }, hs.ps, hs.live⟩, h.ok.img, h.ok.rds, h.ok.rise, h.ok.nrise, h.ok.apart⟩, h.frm.step hu (fun _ hk => .inl hk), h.fa.step hu (fun _ hk => .inl hk), h.fb.step hu (fun _ hk => .inl hk), h.ps, h.opn, h.nx, h.clo, h.rx, h.of, h.gen⟩
end
end Go.Proofs.YtlommddabccdeaaGreatDoor
