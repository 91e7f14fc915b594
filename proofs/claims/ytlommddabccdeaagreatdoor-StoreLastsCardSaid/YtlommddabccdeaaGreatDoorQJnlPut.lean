/-
  JnlWBytes, JnlPut.
-/
import Derived.Test.YtlommddabccdeaaGreatDoorQJnlWHead
namespace Go.Proofs.YtlommddabccdeaaGreatDoor
open Go.ChangeShapes Go.WideShapes Go.ChangeAt Go.RowKit

def BytesRes (w : World) (D : DskP) (d : DskV) (first : Nat) (P : List UInt8) (n : Nat) (e : Ending) (w' : World) : Prop :=
 ∃ E d' v', e = .returned (.int .i64 E) ∧ DskAt w' { D with vp := v' } d' ∧ Upd D.F w w' ∧ (∀ g, v'.ownBlock = some g → D.vp.ownBlock = some g ∨ w.heap.size ≤ g) ∧
  ((E = 0 ∧ Settled d' ∧ d'.ws = jlayL d.ws first (chunkL P n) ∧ ∃ dn, Laid d first (chunkL P n) dn ∧ d' = dn.synced) ∨ (E = 2 ∧ d'.dead = true ∧ ∃ t, t ≤ n ∧ Laid d first (chunkL P t) d'))
theorem Laid.synced {d0 d : DskV} {first : Nat} {bs : List (List UInt8)} (h : Laid d0 first bs d) (h1 : ¬ d.armed = 1) : Settled d.synced ∧ d.synced.ws = jlayL d0.ws first bs := by
 refine ⟨⟨h.ok.synced, ?_, ?_⟩, ?_⟩
 ·unfold DskV.synced; rw [if_neg h1]
 ·unfold DskV.synced; rw [if_neg h1]
  simp [DskV.act, h1]
 ·unfold DskV.synced; rw [if_neg h1]; exact h.ws
structure WbAt (w : World) (J : Nat) (D : DskP) (d : DskV) (h : HeadV) (q : Bool) (first : Nat) (P : List UInt8) (t : Nat) (wr : World) (v : Value) (dt : DskV) : Prop where
 dsk : DskAt wr { D with vp := v } dt
 laid : Laid d first (chunkL P t) dt
 live : dt.dead = false
 upd : Upd D.F w wr
 vnew : ∀ g, v.ownBlock = some g → D.vp.ownBlock = some g ∨ w.heap.size ≤ g
 jnl : JnlAt wr J D.p h q
theorem WbAt.next {w : World} {J : Nat} {D : DskP} {d : DskV} {h : HeadV} {q : Bool} {first : Nat} {P : List UInt8} {t : Nat} {wr w' : World} {v : Value} {dt : DskV} (H : WbAt w J D d h q first P t wr v dt) (hf : first + t < d.ws.length) (hc : ((P.drop (t * 64)).take 64).length = 64)
  {w0 : World} (hw0 : Below wr.heap.size wr w0) (hs : DStep w0 { D with vp := v } (dt.wrote (first + t) ((P.drop (t * 64)).take 64)) w') :
  ∃ v', DskAt w' { D with vp := v' } (dt.wrote (first + t) ((P.drop (t * 64)).take 64)) ∧ Laid d first (chunkL P (t + 1)) (dt.wrote (first + t) ((P.drop (t * 64)).take 64)) ∧ Upd D.F w w' ∧ (∀ g, v'.ownBlock = some g → D.vp.ownBlock = some g ∨ w.heap.size ≤ g) ∧ JnlAt w' J D.p h q := by
 have hl := H.laid.more (b := (P.drop (t * 64)).take 64) (by rw [chunkL_len]; exact hf) hc
 rw [chunkL_len, ← chunkL_succ] at hl
 obtain ⟨v', hA, hU, hv⟩ := DStep.trans ⟨H.upd, H.vnew⟩ (DStep.after hw0 hs)
 obtain ⟨v'', hA2, hU2, _⟩ := DStep.after hw0 hs
 exact ⟨v', hA, hl, hU, hv, JnlAt.step (D := { D with vp := v }) H.jnl H.dsk hU2⟩
set_option maxHeartbeats 3200000 in
theorem writeBytes_any (w : World) (J : Nat) (D : DskP) (d : DskV) (h : HeadV) (q : Bool) (hJ : JnlAt w J D.p h q) (hD : DskAt w D d) (hs : Settled d) (area behind : Nat) (ha : area < 2) (s : List UInt8) (hsl : s.length ≤ 60000) (hb : behind + 2 + s.length ≤ arN d.ws * 64) :
  Calls Tryz.prog 131 #[.pointer (some ⟨J, 0, none⟩), .int .i64 area, .int .i64 behind, .string (bOf (recL s))] w (BytesRes w D d (bkN d.ws area behind) (putL d.ws area behind s) (nBlk behind s)) := by
 have hok := hs.ok
 have hA := areaN_le hok
 have eA : arN d.ws = areaN d := rfl
 have c0 := cell_at hJ (k := 0) rfl
 have hbA : behind < arN d.ws * 64 := by omega
 have hbk := bkN_lt hok ha hbA
 have hfit := nBlk_fit hok ha hb
 have hb2 : d.ws[bkN d.ws area behind]? = some d.ws[bkN d.ws area behind] := List.getElem?_eq_getElem hbk
 obtain ⟨b0, hb0⟩ : ∃ b0, d.ws[bkN d.ws area behind] = b0 := ⟨_, rfl⟩
 rw [hb0] at hb2
 have h64 : b0.length = 64 := hok.w64 b0 (List.mem_of_getElem? hb2)
 have hgd : d.ws.getD (bkN d.ws area behind) [] = b0 := by simp [List.getD, hb2]
 have HBA : Hid (Calls Tryz.prog 112 #[.pointer (some ⟨J, 0, none⟩), .int .i64 area, .int .i64 behind] w fun e w' => e = .returned (.int .i64 ((bkN d.ws area behind : Nat) : Int)) ∧ w = w') := Lib.hid (blockAt_any w J D d h q hJ hD hok area behind ha (by omega))
 have HRD : Hid (Calls Tryz.prog 54 #[.pointer (some ⟨D.p, 0, none⟩), .int .i64 ((bkN d.ws area behind : Nat) : Int)] w fun e w' => e = .returned (.tuple #[.string (bOf b0), .int .i64 0]) ∧ Below w.heap.size w w') := Lib.hid (dread_any w D d hD hok hs.live _ b0 hb2)
 have hPl : putL d.ws area behind s = padL (b0.take (behind % 64) ++ recL s) := by unfold putL; rw [hgd]
 have HPD : Hid (∀ W, Calls Tryz.prog 99 #[.string (bOf (b0.take (behind % 64)) ++ bOf (recL s))] W fun e w' => e = .returned (.string (bOf (putL d.ws area behind s))) ∧ Below W.heap.size W w') := Lib.hid fun W => by
  have := padded_any W (bOf (b0.take (behind % 64) ++ recL s)) (by rw [bOf_size, List.length_append, List.length_take, recL_len]; omega)
  rw [bOf_list, ← hPl] at this
  rw [bOf_append]
  exact this
 have hPlen : (putL d.ws area behind s).length = nBlk behind s * 64 := putL_len hok ha hbA
 have hst0 : (bOf b0).extract 0 (behind % 64) = bOf (b0.take (behind % 64)) := by rw [bOf_ext, List.drop_zero]
 have hsz0 : (bOf b0).size = 64 := by rw [bOf_size, h64]
 have hsz1 : (bOf (b0.take (behind % 64))).size = behind % 64 := by rw [bOf_size, List.length_take, h64]; omega
 have hsz2 : (bOf (recL s)).size = 2 + s.length := by rw [bOf_size, recL_len]
 have hadd : ¬ 9223372036854775807 < (bOf (b0.take (behind % 64))).size + (bOf (recL s)).size := by rw [hsz1, hsz2]; omega
 have HST : Hid (∀ wr, Below w.heap.size w wr → WbAt w J D d h q (bkN d.ws area behind) (putL d.ws area behind s) 0 wr D.vp d) := Lib.hid fun wr hW =>
  ⟨hD.below hW, Laid.start hok hs.ps _, hs.live, Upd.of_below hW, fun g hg => Or.inl hg, hJ.below hW⟩
 have HJD := Lib.hid (jnl_apart hJ hD)
 have HHB : Hid (∀ t, t < nBlk behind s → bkN d.ws area behind + t < d.ws.length) := Lib.hid fun t ht => by omega
 clear hJ hD hs hb hA eA hbA hbk hfit hb2 hgd h64 hPl hb0 hok hsz1 hsz2 hsl
 obtain ⟨P, hP⟩ : ∃ P, putL d.ws area behind s = P := ⟨_, rfl⟩
 obtain ⟨N, hN⟩ : ∃ N, nBlk behind s = N := ⟨_, rfl⟩
 obtain ⟨FB, hFB⟩ : ∃ FB, bkN d.ws area behind = FB := ⟨_, rfl⟩
 rw [hP, hN] at hPlen
 rw [hP, hFB] at HST
 rw [hFB] at HBA HRD
 rw [hP] at HPD
 rw [hN, hFB] at HHB
 rw [hP, hN, hFB]
 have HPL := Lib.hid hPlen
 have hPs : (bOf P).size = N * 64 := by rw [bOf_size, hPlen]
 have HCH : Hid (∀ t, t < N → (bOf P).extract (t * 64) (t * 64 + 64) = bOf ((P.drop (t * 64)).take 64) ∧ ((P.drop (t * 64)).take 64).length = 64) := Lib.hid fun t ht => ⟨by
  rw [bOf_ext, List.drop_take]
  congr 2
  omega, by rw [List.length_take, List.length_drop, hPlen]; omega⟩
 clear hP hN hFB hPlen
 have hr : IntKind.i64.wrap ((behind : Int) % 64) = (behind : Int) % 64 := IntWalk.i64_in _ (by omega)
 obtain ⟨R, hR⟩ : ∃ R, behind % 64 = R := ⟨_, rfl⟩
 have hR2 : (behind : Int) % 64 = (R : Int) := by omega
 have hR64 : R ≤ 64 := by omega
 have hR64' : (R : Int) ≤ 64 := by omega
 have hR0 : (0 : Int) ≤ R := by omega
 rw [hR] at hst0 hadd HPD
 clear hR hr
 generalize bOf (b0.take R) = Z0 at *
 generalize bOf b0 = SB0 at *
 generalize bOf (recL s) = SR at *
 obtain ⟨SP, hSP⟩ : ∃ SP, bOf P = SP := ⟨_, rfl⟩
 rw [hSP] at HPD hPs HCH
 clear hSP
 go_enter Tryz.func131, Tryz.ntmps131
 go_wp2_with (first
  | (go_at_call 112; refine HBA.out.mono ?_; rintro e w2 ⟨rfl, rfl⟩)
  | (go_at_call 54; refine HRD.out.mono ?_; rintro e w2 ⟨rfl, hb2⟩; have HB2 := Lib.hid hb2; clear hb2)
  | (go_at_call 99; (with_reducible refine (HPD.out _).mono ?_); rintro e w3 ⟨rfl, hb3⟩; have HB3 := Lib.hid (HB2.out.trans (hb3.mono HB2.out.size)); clear hb3))
 have HST3 := Lib.hid (HST.out _ HB3.out)
 clear HBA HRD HPD HB2 HB3 HST hst0 hsz0 hadd hR2 hR64 hR64' hR0
 go_loopw [12, 13] (fun i _ wr => ∃ t v dt, i = .int .i64 ((t * 64 : Nat) : Int) ∧ t ≤ N ∧ Hid (WbAt w J D d h q FB P t wr v dt)) (fun i _ _ => N * 64 - (intOf i).toNat)
 case atStart => exact ⟨0, D.vp, d, by simp, by omega, HST3⟩
 case round =>
  obtain ⟨t, v, dt, rfl, ht, HR⟩ := hrel
  have cJ := cell_at HR.out.jnl (k := 0) rfl
  have HBD : Hid (Below wr.heap.size wr wr.drew) := Lib.hid ⟨rfl, rfl, rfl, Nat.le_refl _, fun _ _ => rfl⟩
  by_cases hlt : t < N
  ·obtain ⟨hx, hc⟩ := HCH.out t hlt
   have hf := HHB.out t hlt
   have HN := Lib.hid (fun w' => HR.out.next (w' := w') hf hc HBD.out)
   have HWR : Hid (Calls Tryz.prog 62 #[.pointer (some ⟨D.p, 0, none⟩), .int .i64 ((FB + t : Nat) : Int), .string (bOf ((P.drop (t * 64)).take 64))] wr.drew fun e w' => e = .returned (.int .i64 dt.says) ∧ DStep wr.drew { D with vp := v } (dt.wrote (FB + t) ((P.drop (t * 64)).take 64)) w') := Lib.hid (by
    have := dwrite_any wr.drew { D with vp := v } dt (HR.out.dsk.below HBD.out) HR.out.laid.ok HR.out.live (FB + t) (by rw [HR.out.laid.ws, jlayL_len]; exact hf) (bOf ((P.drop (t * 64)).take 64)) (by rw [bOf_size, hc])
    rw [bOf_list] at this
    exact this)
   have HTN := Lib.hid hlt
   have HJ0 : Hid (∀ w', DStep wr.drew { D with vp := v } (dt.wrote (FB + t) ((P.drop (t * 64)).take 64)) w' → w'.cell? ⟨J, 0, none⟩ = some (.pointer (some ⟨D.p, 0, none⟩))) := Lib.hid fun w' hs => by
    obtain ⟨v', _, _, _, _, hj⟩ := HN.out w' hs
    exact cell_at hj (k := 0) rfl
   obtain ⟨T64, hT64⟩ : ∃ T64, t * 64 = T64 := ⟨_, rfl⟩
   have HT64 := Lib.hid hT64
   have q1 : (T64 : Int) < ((N * 64 : Nat) : Int) := by omega
   have q2 : (0 : Int) ≤ T64 := by omega
   have q3 : (T64 : Int) / 64 = (t : Int) := by omega
   have hfb : FB + t ≤ 5000 := by have := HR.out.laid.ok.hi; rw [HR.out.laid.ws, jlayL_len] at this; omega
   have hw1 : IntKind.i64.wrap ((FB : Int) + t) = ((FB + t : Nat) : Int) := by rw [IntWalk.i64_in _ (by omega)]; omega
   have hw2 : IntKind.i64.wrap ((T64 : Int) + 64) = ((T64 + 64 : Nat) : Int) := by rw [IntWalk.i64_in _ (by omega)]; omega
   have hw0 : IntKind.i64.wrap (t : Int) = (t : Int) := IntWalk.i64_in _ (by omega)
   obtain ⟨CH, hCH⟩ : ∃ CH, bOf ((P.drop (t * 64)).take 64) = CH := ⟨_, rfl⟩
   rw [hCH] at hx HWR
   clear hCH
   rw [hT64] at hx ⊢
   have q4 : T64 ≤ T64 + 64 := by omega
   have q5 : T64 + 64 ≤ N * 64 := by omega
   have q6 : (T64 : Int) ≤ ((T64 + 64 : Nat) : Int) := by omega
   have q7 : ((T64 + 64 : Nat) : Int) ≤ ((N * 64 : Nat) : Int) := by omega
   generalize ((FB + t : Nat) : Int) = FT at *
   obtain ⟨T2, hT2⟩ : ∃ T2, T64 + 64 = T2 := ⟨_, rfl⟩
   have HT2 := Lib.hid hT2
   rw [hT2] at hx hw2 q4 q5 q6 q7
   obtain ⟨NN, hNN⟩ : ∃ NN, N * 64 = NN := ⟨_, rfl⟩
   have HNN := Lib.hid hNN
   rw [hNN] at q1 q5 q7 hPs
   clear hf hc hlt hT64 hfb hT2 hNN
   by_cases h1 : dt.armed = 1
   ·have hsay : dt.says = 2 := by unfold DskV.says; rw [if_pos h1]
    rw [hsay] at HWR
    have HDD : Hid ((dt.wrote (FB + t) ((P.drop (t * 64)).take 64)).dead = true) := Lib.hid (by simp [DskV.wrote, DskV.act, h1])
    clear hsay h1
    go_wp2
    go_region_held3 (fun W => W.cell? ⟨J, 0, none⟩ = some (.pointer (some ⟨D.p, 0, none⟩))) (first | exact KS.out | exact cJ) (first
     | (go_at_call 62; (with_reducible refine HWR.out.mono ?_); rintro e w4 ⟨rfl, hs4⟩; have KS := Lib.hid (HJ0.out _ hs4); have H4 := Lib.hid (HN.out _ hs4); clear hs4; dsimp only)
     | fail)
    go_wp2
    go_ret
    obtain ⟨v', hA, hl, hU, hv, hj⟩ := H4.out
    exact ⟨2, _, v', rfl, hA, hU, hv, Or.inr ⟨rfl, HDD.out, t + 1, HTN.out, hl⟩⟩
   ·have hsay : dt.says = 0 := by unfold DskV.says; rw [if_neg h1]
    rw [hsay] at HWR
    have HDD : Hid ((dt.wrote (FB + t) ((P.drop (t * 64)).take 64)).dead = false) := Lib.hid (by simp [DskV.wrote, DskV.act, h1])
    clear hsay h1
    go_wp2
    go_region_held3 (fun W => W.cell? ⟨J, 0, none⟩ = some (.pointer (some ⟨D.p, 0, none⟩))) (first | exact KS.out | exact cJ) (first
     | (go_at_call 62; (with_reducible refine HWR.out.mono ?_); rintro e w4 ⟨rfl, hs4⟩; have KS := Lib.hid (HJ0.out _ hs4); have H4 := Lib.hid (HN.out _ hs4); clear hs4; dsimp only)
     | fail)
    go_wp2
    obtain ⟨v', hA, hl, hU, hv, hj⟩ := H4.out
    have HR2 : Hid (WbAt w J D d h q FB P (t + 1) w4 v' (dt.wrote (FB + t) ((P.drop (t * 64)).take 64))) := Lib.hid ⟨hA, hl, HDD.out, hU, hv, hj⟩
    clear hA hl hU hv hj
    go_roundw
    case rel => exact ⟨t + 1, v', _, by rw [← HT2.out, ← HT64.out]; congr 1; omega, HTN.out, HR2⟩
    case measure => have h1 := HTN.out; have h2 := HT64.out; have h3 := HT2.out; simp [intOf]; omega
  ·have q1 : ¬ ((t * 64 : Nat) : Int) < ((N * 64 : Nat) : Int) := by omega
   have e : t = N := by omega
   subst e
   have HSY : Hid (Calls Tryz.prog 64 #[.pointer (some ⟨D.p, 0, none⟩)] wr fun e w' => e = .returned (.int .i64 dt.says) ∧ DStep wr { D with vp := v } dt.synced w') := Lib.hid (dsync_any wr { D with vp := v } dt HR.out.dsk HR.out.laid.ok HR.out.live)
   obtain ⟨NN, hNN⟩ : ∃ NN, t * 64 = NN := ⟨_, rfl⟩
   rw [hNN] at q1 hPs ⊢
   clear hNN
   obtain ⟨S, hS⟩ : ∃ S, dt.says = S := ⟨_, rfl⟩
   have HS := Lib.hid hS
   rw [hS] at HSY
   clear hS
   go_wp2_with (go_at_call 64; refine HSY.out.mono ?_; rintro e w4 ⟨rfl, hs4⟩; have H4 := Lib.hid hs4; clear hs4)
   go_ret
   obtain ⟨v', hA, hU, hv⟩ := DStep.trans ⟨HR.out.upd, HR.out.vnew⟩ H4.out
   refine ⟨S, _, v', rfl, hA, hU, hv, ?_⟩
   by_cases h1 : dt.armed = 1
   ·right
    have e1 : dt.synced = dt.act := by unfold DskV.synced; rw [if_pos h1]
    refine ⟨by rw [← HS.out]; unfold DskV.says; rw [if_pos h1], ?_, t, Nat.le_refl _, ?_⟩
    ·rw [e1]; simp [DskV.act, h1]
    ·rw [e1]; exact HR.out.laid.act
   ·left
    obtain ⟨h2, h3⟩ := HR.out.laid.synced h1
    exact ⟨by rw [← HS.out]; unfold DskV.says; rw [if_neg h1], h2, h3, dt, HR.out.laid, rfl⟩
end Go.Proofs.YtlommddabccdeaaGreatDoor

namespace Go.Proofs.YtlommddabccdeaaGreatDoor
open Go.ChangeShapes Go.WideShapes Go.ChangeAt Go.RowKit

def LayRes (w : World) (J : Nat) (D : DskP) (d : DskV) (h : HeadV) (rs : List (List UInt8)) (h' : HeadV) (rs' : List (List UInt8)) (q : Bool) (e : Ending) (w' : World) : Prop :=
 ∃ E d' v', e = .returned (.int .i64 E) ∧ DskAt w' { D with vp := v' } d' ∧ Upd (J :: D.F) w w' ∧ (∀ g, v'.ownBlock = some g → D.vp.ownBlock = some g ∨ w.heap.size ≤ g) ∧ PutRes d h rs h' rs' E d' ∧ ((E = 0 ∧ JnlAt w' J D.p h' q) ∨ (E = 2 ∧ JnlAt w' J D.p h q))
theorem recordBytes' (s : List UInt8) (hs : s.length ≤ 60000) (W : World) : Calls Tryz.prog 132 #[.string (bOf s)] W fun e w' => e = .returned (.string (bOf (recL s))) ∧ Below W.heap.size W w' := by
 have := recordBytes_any W (bOf s) (by rw [bOf_size]; omega)
 rw [bOf_list] at this
 exact this
theorem chain_v {w w1 : World} {F : List Nat} {D : DskP} {v1 v2 : Value} (hu : Upd F w w1) (h1 : ∀ g, v1.ownBlock = some g → D.vp.ownBlock = some g ∨ w.heap.size ≤ g) (h2 : ∀ g, v2.ownBlock = some g → v1.ownBlock = some g ∨ w1.heap.size ≤ g) : ∀ g, v2.ownBlock = some g → D.vp.ownBlock = some g ∨ w.heap.size ≤ g := fun g hg => by
 rcases h2 g hg with h | h
 ·exact h1 g h
 ·exact Or.inr (Nat.le_trans hu.size h)
theorem chain_u {w w1 w2 : World} {J : Nat} {D : DskP} {v1 : Value} (h : Upd D.F w w1) (h1 : ∀ g, v1.ownBlock = some g → D.vp.ownBlock = some g ∨ w.heap.size ≤ g) (h2 : Upd (J :: ({ D with vp := v1 } : DskP).F) w1 w2) : Upd (J :: D.F) w w2 :=
 (upd_cons h).trans h2 fun x hx => by
  simp [DskP.F] at hx ⊢
  rcases hx with e | e | e | e | e
  ·exact .inl (.inl e)
  ·exact .inl (.inr (.inl e))
  ·exact .inl (.inr (.inr (.inl e)))
  ·exact .inl (.inr (.inr (.inr (.inl e))))
  ·rcases h1 x e with h3 | h3
   ·exact .inl (.inr (.inr (.inr (.inr h3))))
   ·exact .inr h3
theorem put_mid {d d1 dn : DskV} (hs : Settled d) {h : HeadV} {rs rs0 : List (List UInt8)} (hi : ImgOk d.ws h rs) (hg : h.gen ≠ 4611686018427387904) {area behind : Nat} (hk : PutKind h rs area behind rs0) {s : List UInt8} (hsl : s.length ≤ 60000) (hb : behind + 2 + s.length ≤ arN d.ws * 64)
  (hw : d1.ws = jlayL d.ws (bkN d.ws area behind) (chunkL (putL d.ws area behind s) (nBlk behind s))) (hl : Laid d (bkN d.ws area behind) (chunkL (putL d.ws area behind s) (nBlk behind s)) dn) :
  ImgOk d1.ws h rs ∧ ImgOk (d1.ws.set 0 (headL (putH h area behind s))) (putH h area behind s) (rs0 ++ [s]) ∧ d1.ws.length = d.ws.length := by
 refine ⟨?_, ?_, by rw [hw, jlayL_len]⟩
 ·have := put_old hs.ok hi hk hb (Nat.le_refl _) hl (mixed_self dn)
  rw [hw, ← hl.ws]
  exact this
 ·rw [hw]
  exact put_new hs.ok hi hg hk hsl hb
theorem put_head {d d1 d2 : DskV} (hs1 : Settled d1) {h h' : HeadV} {rs rs' : List (List UInt8)} (h1 : ImgOk d1.ws h rs) (h2 : ImgOk (d1.ws.set 0 (headL h')) h' rs') (hlen : d1.ws.length = d.ws.length) (ha : d.armed = 0 → d1.armed = 0) {E : Int}
  (hr : (E = 0 ∧ Settled d2 ∧ d2.ws = d1.ws.set 0 (headL h')) ∨ (E = 2 ∧ d2.dead = true ∧ Laid d1 0 [headL h'] d2)) : PutRes d h rs h' rs' E d2 := by
 rcases hr with ⟨e, h3, h4⟩ | ⟨e, h3, h4⟩
 ·exact ⟨⟨by rw [h4, List.length_set, hlen], fun _ => by omega⟩, Or.inl ⟨e, h3, by rw [h4]; exact h2⟩⟩
 ·refine ⟨⟨by rw [h4.ws]; simp [jlayL, hlen], fun h0 => by
   have := (h4.un (ha h0)).2 h3
   rw [hs1.live] at this; cases this⟩, Or.inr ⟨e, h4.ok, h3, fun img hm => ?_⟩⟩
  rcases mixed_head hs1.ok h4 hm with h5 | h5
  ·left; rw [h5]; exact h1
  ·right; rw [h5]; exact h2
set_option maxHeartbeats 1600000 in
theorem jlay_any (w : World) (J : Nat) (D : DskP) (d : DskV) (h : HeadV) (q : Bool) (hJ : JnlAt w J D.p h q) (hD : DskAt w D d) (hs : Settled d) (rs rs0 : List (List UInt8)) (hi : ImgOk d.ws h rs) (hg : h.gen ≠ 4611686018427387904) (area behind : Nat) (hk : PutKind h rs area behind rs0) (s : List UInt8) (hsl : s.length ≤ 60000) (hb : behind + 2 + s.length ≤ arN d.ws * 64) :
  Calls Tryz.prog 109 #[.pointer (some ⟨J, 0, none⟩), .string (bOf s), .int .i64 area, .int .i64 behind] w (LayRes w J D d h rs (putH h area behind s) (rs0 ++ [s]) q) := by
 have hA := areaN_le hs.ok
 have eA : arN d.ws = areaN d := rfl
 have hgen := hi.gen
 have ha : area < 2 := by
  have := hi.area
  rcases hk with ⟨h1, _⟩ | ⟨h1, _⟩ <;> omega
 have HRB := Lib.hid (recordBytes' s hsl)
 have HWB : Hid (∀ W, Below w.heap.size w W → Calls Tryz.prog 131 #[.pointer (some ⟨J, 0, none⟩), .int .i64 area, .int .i64 behind, .string (bOf (recL s))] W (BytesRes W D d (bkN d.ws area behind) (putL d.ws area behind s) (nBlk behind s))) := Lib.hid fun W hW =>
  writeBytes_any W J D d h q (hJ.below hW) (hD.below hW) hs area behind ha s hsl hb
 have HTK : Hid (∀ W, Calls Tryz.prog 108 #[.string (bOf s)] W fun e w' => e = .returned (.int .i64 ((2 + s.length : Nat) : Int)) ∧ W = w') := Lib.hid fun W => by
  have := takes_any W (bOf s) (by rw [bOf_size]; omega)
  rw [bOf_size] at this
  exact this
 have HJD : Hid (∀ W, Below w.heap.size w W → JnlAt W J D.p h q ∧ DskAt W D d) := Lib.hid fun W hW => ⟨hJ.below hW, hD.below hW⟩
 have HMID : Hid (∀ d1 dn, Settled d1 → d1.ws = jlayL d.ws (bkN d.ws area behind) (chunkL (putL d.ws area behind s) (nBlk behind s)) → Laid d (bkN d.ws area behind) (chunkL (putL d.ws area behind s) (nBlk behind s)) dn → ImgOk d1.ws h rs ∧ ImgOk (d1.ws.set 0 (headL (putH h area behind s))) (putH h area behind s) (rs0 ++ [s]) ∧ d1.ws.length = d.ws.length) := Lib.hid fun d1 dn _ hw hl => put_mid hs hi hg hk hsl hb hw hl
 have HOLD : Hid (∀ t d', t ≤ nBlk behind s → Laid d (bkN d.ws area behind) (chunkL (putL d.ws area behind s) t) d' → ∀ img, Mixed d' img → ImgOk img h rs) := Lib.hid fun t d' ht hl img hm => put_old hs.ok hi hk hb ht hl hm
 have hw1 : IntKind.i64.wrap ((h.gen : Int) + 1) = ((h.gen + 1 : Nat) : Int) := by rw [IntWalk.i64_in _ (by omega)]; omega
 have hw2 : IntKind.i64.wrap ((behind : Int) + ((2 + s.length : Nat) : Int)) = ((behind + (2 + s.length) : Nat) : Int) := by rw [IntWalk.i64_in _ (by omega)]; omega
 have HLV := Lib.hid hs.live
 clear hJ hD hs hi hg hk hb hA eA hgen ha hsl
 obtain ⟨G, hG⟩ : ∃ G : Int, (h.gen : Int) = G := ⟨_, rfl⟩
 obtain ⟨G1, hG1⟩ : ∃ G1 : Int, ((h.gen + 1 : Nat) : Int) = G1 := ⟨_, rfl⟩
 obtain ⟨TK, hTK⟩ : ∃ TK : Int, ((2 + s.length : Nat) : Int) = TK := ⟨_, rfl⟩
 obtain ⟨U1, hU1⟩ : ∃ U1 : Int, ((behind + (2 + s.length) : Nat) : Int) = U1 := ⟨_, rfl⟩
 rw [hG, hG1] at hw1
 rw [hTK, hU1] at hw2
 rw [hTK] at HTK
 have HG := Lib.hid hG
 have HHA : Hid (hAgg (putH h area behind s) = .agg #[.int .i64 G1, .int .i64 area, .int .i64 U1]) := Lib.hid (by rw [← hG1, ← hU1]; rfl)
 clear hG hG1 hTK hU1
 obtain ⟨SB, hSB⟩ : ∃ SB, bOf s = SB := ⟨_, rfl⟩
 rw [hSB] at HRB HTK ⊢
 clear hSB
 go_enter Tryz.func109, Tryz.ntmps109
 go_wp2_with (go_at_call 132; (with_reducible refine (HRB.out _).mono ?_); rintro e w2 ⟨rfl, hb2⟩; have HB2 := Lib.hid hb2; clear hb2)
 refine (HWB.out _ HB2.out).mono ?_
 rintro e w3 ⟨E, d1, v1, rfl, hA3, hU3, hv3, hcase⟩
 obtain ⟨hJ2, hD2⟩ := HJD.out _ HB2.out
 have HJ3 := Lib.hid (hJ2.step hD2 hU3)
 have HU3 := Lib.hid ((Upd.of_below HB2.out).step hU3 (fun _ hx => hx))
 have HV3 : Hid (∀ g, v1.ownBlock = some g → D.vp.ownBlock = some g ∨ w.heap.size ≤ g) := Lib.hid fun g hg => (hv3 g hg).imp id (Nat.le_trans HB2.out.size)
 have HA3 := Lib.hid hA3
 clear hA3 hU3 hv3 hJ2 hD2
 rcases hcase with ⟨rfl, hs1, hws, dn, hl, hds⟩ | ⟨rfl, hdd, t, ht, hl⟩
 ·have HM := Lib.hid (HMID.out d1 dn hs1 hws hl)
  have HAR : Hid (d.armed = 0 → d1.armed = 0) := Lib.hid fun h0 => by
   have h1 := (hl.un h0).1
   rw [hds]; unfold DskV.synced; rw [if_neg (by omega)]
   show dn.armed - 1 = 0; omega
  have c1 := cell_at HJ3.out (k := 1) rfl
  have HWH : Hid (∀ W, Below w3.heap.size w3 W → Calls Tryz.prog 40 #[.pointer (some ⟨J, 0, none⟩), hAgg (putH h area behind s)] W (HeadRes W J { D with vp := v1 } d1 h (putH h area behind s) q)) := Lib.hid fun W hW =>
   writeHead_any W J { D with vp := v1 } d1 h (putH h area behind s) q (HJ3.out.below hW) (HA3.out.below hW) hs1
  have HS1 := Lib.hid hs1
  have HBD : Hid (Below w3.heap.size w3 w3.drew) := Lib.hid ⟨rfl, rfl, rfl, Nat.le_refl _, fun _ _ => rfl⟩
  clear hs1 hws hl hds
  rw [HHA.out] at HWH
  rw [show (#[Value.pointer (some ⟨D.p, 0, none⟩), .int .i64 h.gen, .int .i64 h.area, .int .i64 h.used, .bool q] : Array Value)[1] = .int .i64 h.gen from rfl, HG.out] at c1
  go_wp2
  go_region_law (first
   | (go_simp; (with_reducible refine (HTK.out _).mono ?_); rintro e w4 ⟨rfl, rfl⟩; dsimp only)
   | (go_simp; (with_reducible refine (HWH.out _ HBD.out).mono ?_); rintro e w4 ⟨E4, d4, v4, rfl, hr4⟩; have H4 := Lib.hid hr4; clear hr4; dsimp only)
   | fail)
  all_goals
   go_wp2
   go_ret
   obtain ⟨hA4, hU4, hv4, hc4⟩ := H4.out
   refine ⟨E4, d4, v4, rfl, hA4, chain_u HU3.out HV3.out ((Upd.of_below HBD.out).step hU4 (fun _ hx => hx)), chain_v HU3.out HV3.out hv4, put_head HS1.out HM.out.1 HM.out.2.1 HM.out.2.2 HAR.out ?_, ?_⟩
   ·rcases hc4 with ⟨e1, e2, e3, _⟩ | ⟨e1, e2, e3, _⟩
    ·exact Or.inl ⟨e1, e2, e3⟩
    ·exact Or.inr ⟨e1, e2, e3⟩
   ·rcases hc4 with ⟨e1, _, _, e4, _⟩ | ⟨e1, _, _, e4, _⟩
    ·exact Or.inl ⟨e1, e4⟩
    ·exact Or.inr ⟨e1, e4⟩
 ·have q1 : ¬ (2 : Int) = 0 := by decide
  go_wp2
  go_ret
  refine ⟨2, d1, v1, rfl, HA3.out, upd_cons HU3.out, HV3.out, ⟨⟨by rw [hl.ws, jlayL_len], fun h0 => by
   have := (hl.un h0).2 hdd
   rw [HLV.out] at this; cases this⟩, Or.inr ⟨rfl, hl.ok, hdd, fun img hm => Or.inl (HOLD.out t d1 ht hl img hm)⟩⟩, Or.inr ⟨rfl, HJ3.out⟩⟩
end Go.Proofs.YtlommddabccdeaaGreatDoor
