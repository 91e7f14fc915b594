/-
  RefsExpands0.
-/
import Derived.Test.YtopghlnoklajkaaGreatDoorQRefsExpandW
import Derived.Test.YtopghlnoklajkaaGreatDoorQRefsBoth
import Derived.Test.YtopghlnoklajkaaGreatDoorQRefsLaid
import Derived.Test.YtopghlnoklajkaaGreatDoorQRefsLaw0
import Derived.Test.YtopghlnoklajkaaGreatDoorQRefsLaw1
import Derived.Test.YtopghlnoklajkaaGreatDoorQLayGet
import Derived.Test.YtopghlnoklajkaaGreatDoorQSetAll2
namespace Go.Proofs.YtopghlnoklajkaaGreatDoor
open Go.ChangeShapes Go.WideShapes Go.ChangeAt Go.RowKit

theorem SetsAt.stay_ {B : Nat} {S : Nat → Prop} {w w' : World} {v : Value} {ms : List SetM} (h : SetsAt B w v ms) (hc : Chg S w w') (hv : ∀ g, v.ownBlock = some g → ¬ S g) (hw : ∀ m ∈ ms, ∀ b off, 0 < m.x.val.words.length → m.a = some ⟨b, off, none⟩ → ¬ S b) : SetsAt B w' v ms :=
 ⟨hc.row h.row hv, fun m hm => by
  have h0 := h.wds m hm
  refine ⟨fun k hk => ?_, h0.2.1, h0.2.2⟩
  obtain ⟨b, off, e, hl, hcl⟩ := h0.1 k hk
  exact ⟨b, off, e, Nat.lt_of_lt_of_le hl hc.size, (hc.cell_ (b := b) (i := off + k) hl (hw m hm b off (by omega) e)).trans hcl⟩⟩
structure EbSide (X Z N1 : Nat) (F0 : Nat → Prop) (lv vw : Value) (lw : List SetM) : Prop where
 xz : X ≠ Z
 fx : ¬ F0 X
 g : ∀ g, lv.ownBlock = some g → ¬ F0 g ∧ g ≠ Z ∧ g < N1
 v : ∀ g, vw.ownBlock = some g → N1 ≤ g
 nw : NewW N1 lw
structure EbIn (B : Nat) (w0 w : World) (F : Nat → Prop) (X Y : Nat) (dx : Option Addr) (dc : Nat) (hx : Option Addr) (hc : Nat) (ks : List KeyV) (ms : List SetM) (yk : Option Addr) (ck : Nat) (lv : Value) (ns : List SetM) (F0 : Nat → Prop) (Z : Nat) (hz : Option Addr) (hcz : Nat) (ms0 : List SetM) (Bw : Nat) (vw : Value) (lw : List SetM) : Prop where
 both : Both B w0 w F X Y dx dc hx hc ks ms yk ck lv ns
 z : LayAt F0 w Z dx dc hz hcz ks ms0
 was : SetsAt Bw w vw lw
section
variable {B X Y Z N1 Bw dc hc hc' hcz ck : Nat} {w0 w w' w'' : World} {F F' F0 : Nat → Prop} {dx hx hx' hz yk : Option Addr} {ks : List KeyV} {ms ms' ms0 ns ns' lw : List SetM} {lv vw : Value}
theorem EbIn.after (h : EbIn B w0 w F X Y dx dc hx hc ks ms yk ck lv ns F0 Z hz hcz ms0 Bw vw lw) (hb : Below w.heap.size w w') : EbIn B w0 w' F X Y dx dc hx hc ks ms yk ck lv ns F0 Z hz hcz ms0 Bw vw lw :=
 ⟨h.both.after hb, h.z.below hb, h.was.below hb⟩
theorem EbIn.next (h : EbIn B w0 w F X Y dx dc hx hc ks ms yk ck lv ns F0 Z hz hcz ms0 Bw vw lw) (hs : EbSide X Z N1 F0 lv vw lw) (hb : But X w w') (hl : LayAt F' w' X dx dc hx' hc' ks ms') (hok : LayOk ks ms') (hF : ∀ b, F' b → F b ∨ w.heap.size ≤ b)
  (hn : SetsAt B w'' lv ns') (hg : w'.grownBy w'' lv.ownBlock) (hsame : ns'.map (·.x) = ms'.map (·.x)) : EbIn B w0 w'' F' X Y dx dc hx' hc' ks ms' yk ck lv ns' F0 Z hz hcz ms0 Bw vw lw := by
 obtain ⟨f1, f2, f3, f4, f5, f6, f7⟩ := h.both.first hl hok hF hb
 have hz1 := h.z.but hb hs.xz hs.fx
 have hw1 := h.was.butX h.both.a.obj (by decide) hb
 refine ⟨Both.second hl f2 f3 f4 f5 f6 h.both.newX h.both.newL f7 hn hg hsame, ?_, ?_⟩
 ·cases hv : lv.ownBlock with
  | none =>
   rw [hv] at hg
   exact hz1.below ((Below.refl _ w').grown hg (Nat.le_refl _) (fun k hk => by cases hk))
  | some g =>
   rw [hv] at hg
   have h1 := hs.g g hv
   exact hz1.but (Q := g) ⟨hg.os, hg.tape, hg.output, hg.size, fun k hk hn => hg.block k hk (fun e => hn (by injection e))⟩ h1.2.1 h1.1
 ·refine hw1.stay_ (S := fun b => lv.ownBlock = some b) (Chg.of_grown hg (fun g e => e)) (fun g hv e => ?_) (fun m hm b off hp e e2 => ?_)
  ·have h1 := hs.v g hv
   have h2 := (hs.g g e).2.2
   omega
  ·have h1 := hs.nw m hm b off hp e
   have h2 := (hs.g b e2).2.2
   omega
end
theorem xs_same {ms ms' ns' : List SetM} (hl : ms'.length = ms.length) (hx : ∀ j (h1 : j < ms'.length) (h2 : j < ms.length), ms'[j].x = expS ms j ms[j].x) (hl2 : ns'.length = ms.length) (hx2 : ∀ j (h1 : j < ns'.length) (h2 : j < ms.length), ns'[j].x = expS ms j ms[j].x) : ns'.map (·.x) = ms'.map (·.x) := by
 apply List.ext_getElem (by rw [List.length_map, List.length_map]; omega)
 intro j h1 h2
 rw [List.length_map] at h1 h2
 rw [List.getElem_map, List.getElem_map, hx j h2 (by omega), hx2 j h1 (by omega)]
set_option maxHeartbeats 12800000 in
set_option maxRecDepth 100000 in
theorem refsExpands_any (xk yp : Option Addr) (ck cp : Nat) (ls : List KeyV) (ps : List PutV) (w : World) (hK : KeysAt w xk ls) (hn : ls.length ≤ maxLen) (hz : ∀ l ∈ ls, l.name.size ≤ maxLen ∧ l.dflt.size ≤ maxLen ∧ l.letter.size ≤ maxLen)
  (hP : PutsAt w yp ps) (hpn : ps.length ≤ maxLen) (hpz : ∀ p ∈ ps, p.text.size ≤ maxLen) (hpb : ∀ p ∈ ps, (-9223372036854775808 ≤ p.at_ ∧ p.at_ ≤ 9223372036854775807) ∧ (-9223372036854775808 ≤ p.from_ ∧ p.from_ ≤ 9223372036854775807)) (hS : Std w) :
  Calls Tryz.prog 4 #[.slice xk ls.length ck, .slice yp ps.length cp] w fun e w' => e = .returned (.bool true) ∧ Below w.heap.size w w' := by
 have HWG := Lib.hid (rweight_any xk yp ck cp ls ps w hK hn hz hP hpn hpz)
 have HSB : Hid (∀ W, Below w.heap.size w W → Std W) := Lib.hid fun W hb => hS.below hb
 have HBO : Hid (capR (wKR ls + wPR ps) ≤ 2147483647 → ∀ W, Below w.heap.size w W → Calls Tryz.prog 13 #[.slice xk ls.length ck, .slice yp ps.length cp] W (BothRes W)) := Lib.hid fun h W hb => by
  obtain ⟨a, b, c, d⟩ := weigh_small h
  exact both_any xk yp ck cp ls ps W (hK.below hb) (by omega) c (hP.below hb) (by omega) (fun p hp => ⟨d p hp, hpb p hp⟩) (hS.below hb)
 obtain ⟨nl, hnl⟩ : ∃ n, ls.length = n := ⟨_, rfl⟩
 obtain ⟨np, hnp⟩ : ∃ n, ps.length = n := ⟨_, rfl⟩
 rw [hnl, hnp] at HWG HBO ⊢
 generalize capR (wKR ls + wPR ps) = U at HWG HBO
 clear hK hn hz hP hpn hpz hpb hS hnl hnp
 go_enter Tryz.func4, Tryz.ntmps4
 go_wp2_with fail
 refine HWG.out.mono ?_
 rintro e w1 ⟨rfl, hb1⟩
 have HB1 := Lib.hid hb1
 clear hb1 HWG
 by_cases hb : 2147483647 < U
 ·go_wp2
  go_ret
  exact ⟨rfl, HB1.out⟩
 ·have hBO := HBO.out (by omega)
  have HBO2 := Lib.hid hBO
  have hAW := rawake_any w1 (HSB.out _ HB1.out)
  clear HBO hBO
  go_wp2_with fail
  refine hAW.mono ?_
  rintro e w2 ⟨rfl, hb2⟩
  have HB2 := Lib.hid (HB1.out.trans (hb2.mono HB1.out.size))
  have hBO := HBO2.out w2 HB2.out
  clear hb2 hAW HBO2
  go_wp2_with fail
  refine hBO.mono ?_
  rintro e w3 ⟨B, F, X, Y, dx, dc, hx, hc, ks, ms, yk, ck2, lv, ns, rfl, hG, hBB, hbo⟩
  have HG := Lib.hid hG
  have HBO := Lib.hid hbo
  obtain ⟨n, hn⟩ : ∃ n, ks.length = n := ⟨_, rfl⟩
  have HN := Lib.hid hn
  have hn1 : n ≤ 1000 := by rw [← HN.out, ← hbo.ok.len]; exact (made_ms hG hbo.ok).few
  have HR3 : Hid (∀ g, lv.ownBlock = some g → ¬ F g ∧ g < w3.heap.size) := Lib.hid fun g hg => ⟨hbo.row g hg, row_lt hbo.sets.row g hg⟩
  have HX3 : Hid (X < w3.heap.size ∧ ¬ F X) := Lib.hid ⟨heap_ltF hbo.a.obj, hbo.a.out⟩
  have hCP := lcopy_any F X w3 dx hx dc hc ks ms hbo.a
  clear hG hBB hbo hBO hn
  go_wp2_with fail
  refine hCP.mono ?_
  rintro e w4 ⟨rfl, hla4, hb4⟩
  have HB4 := Lib.hid (HBO.out.after hb4)
  have HZ4 := Lib.hid hla4
  have HL34 : Hid (w3.heap.size ≤ w4.heap.size) := Lib.hid hb4.size
  have hAL := sall2_any B Y w4 _ lv ns HB4.out.obj HB4.out.sets (by rw [len_of_same HB4.out.same, HB4.out.ok.len, HN.out]; exact hn1) (fun m hm => by
   have := (right_bounds ((HB4.out.ok.same HB4.out.same).right m hm)).1; omega)
  clear hb4 hla4 HBO hCP
  generalize w3.heap.size = Z at *
  go_wp2_with fail
  refine hAL.mono ?_
  rintro e w5 ⟨vw, lw, rfl, hlw, hsw, hb5, hnw⟩
  obtain ⟨xw, cw, hvw⟩ := hsw.form
  rw [len_of_same hlw, len_of_same HB4.out.same, HB4.out.ok.len, HN.out] at hvw
  subst hvw
  have HSD : Hid (EbSide X Z w4.heap.size F lv (.slice xw n cw) lw) := Lib.hid ⟨by have := HX3.out.1; omega, HX3.out.2, fun g hg => ⟨(HR3.out g hg).1, by have := (HR3.out g hg).2; omega, by have := (HR3.out g hg).2; have := HL34.out; omega⟩, fun g hg => (hsw.row.lt g hg).1, hnw⟩
  have HLW : Hid (lw.map (·.x) = ms.map (·.x) ∧ LayOk ks ms) := Lib.hid ⟨hlw.trans HB4.out.same, HB4.out.ok⟩
  have HI0 : Hid (∃ F1 hx1 hc1 ms1 ns1, EbIn B w2 w5 F1 X Y dx dc hx1 hc1 ks ms1 yk ck2 lv ns1 F Z hx hc ms w4.heap.size (.slice xw n cw) lw) := Lib.hid ⟨F, hx, hc, ms, ns, HB4.out.after hb5, HZ4.out.below hb5, hsw⟩
  clear hlw hsw hb5 hnw hAL HB4 HZ4 HR3 HX3 HL34
  generalize w4.heap.size = N1 at *
  have hBW : ∀ W, Below w2.heap.size w2 W → Below w.heap.size w W := fun W h => HB2.out.trans (h.mono HB2.out.size)
  have HBW := Lib.hid hBW
  clear hBW HB1
  go_wp2
  go_loopw [11, 12, 13, 14, 15, 16] (fun i _ _ _ _ _ wr => ∃ k : Nat, i = .int .i64 k ∧ k ≤ 2 ∧ Hid (∃ F1 hx1 hc1 ms1 ns1, EbIn B w2 wr F1 X Y dx dc hx1 hc1 ks ms1 yk ck2 lv ns1 F Z hx hc ms N1 (.slice xw n cw) lw)) (fun i _ _ _ _ _ _ => 2 - (intOf i).toNat)
  case atStart => exact ⟨0, rfl, by omega, HI0⟩
  case round =>
   clear HI0
   obtain ⟨k, rfl, hk, HI⟩ := hrel
   obtain ⟨F1, hx1, hc1, ms1, ns1, hI⟩ := HI.out
   have HI1 := Lib.hid hI
   clear HI hI
   by_cases hlt : k < 2
   ·have q1 : (0 : Int) ≤ k := by omega
    have q2 : (k : Int) < 2 := by omega
    have HM1 := Lib.hid (made_ms HG.out HI1.out.both.ok)
    have HL1 : Hid (ms1.length = n) := Lib.hid (by rw [HI1.out.both.ok.len]; exact HN.out)
    have hXP := expand_any F1 X wr dx hx1 dc hc1 ks ms1 n HI1.out.both.a HI1.out.both.ok HG.out.sorted HL1.out HM1.out (HSB.out _ (HBW.out _ HI1.out.both.below))
    go_wp2_with fail
    refine hXP.mono ?_
    rintro e w6 hx6
    clear hXP
    unfold XpRes at hx6
    cases hw : wrongE ms1 with
    | some p =>
     obtain ⟨E, kk⟩ := p
     rw [hw] at hx6
     obtain ⟨rfl, hb6⟩ := hx6
     have HI6 := Lib.hid (HI1.out.after hb6)
     have hSX := sexpand_any B Y w6 lv ks ns1 yk ck2 HI6.out.both.keys HI6.out.both.obj HI6.out.both.sets (HM1.out.same HI6.out.both.same) (HI6.out.both.ok.same HI6.out.both.same)
     have hSX2 := hSX.mono fun e w' h => SxRes.same HI6.out.both.same h
     have HW := Lib.hid hw
     clear hb6 HI1 hSX hw
     generalize hnk : nameAt ms1 kk = nk at *
     have HNK := Lib.hid hnk
     clear hnk
     go_wp2_with fail
     refine hSX2.mono ?_
     rintro e w7 hx7
     clear hSX2
     unfold SxRes at hx7
     rw [HW.out] at hx7
     have hx8 : e = .returned (.tuple #[.int .i64 E, .string (nameAt ms1 kk)]) ∧ Below w6.heap.size w6 w7 := hx7
     rw [HNK.out] at hx8
     obtain ⟨rfl, hb7⟩ := hx8
     clear hx7
     have HI7 : Hid (EbIn B w2 w7 F1 X Y dx dc hx1 hc1 ks ms1 yk ck2 lv ns1 F Z hx hc ms N1 (.slice xw n cw) lw) := Lib.hid (HI6.out.after hb7)
     have dE : (E != E) = false := by simp
     clear hb7 HI6 HNK
     have hAL := lall_any F1 X w7 dx hx1 dc hc1 ks ms1 HI7.out.both.a HI7.out.both.ok (by rw [HL1.out]; exact hn1)
     go_wp2_with fail
     refine hAL.mono ?_
     rintro e w8 ⟨v8, l8, rfl, hl8, hs8, hb8⟩
     obtain ⟨x8, c8, hv8⟩ := hs8.form
     rw [len_of_same hl8, HL1.out] at hv8
     subst hv8
     have HI8 := Lib.hid (HI7.out.after hb8)
     have HL8 := Lib.hid (And.intro hl8 hs8)
     have hAY := sall2_any B Y w8 _ lv ns1 HI8.out.both.obj HI8.out.both.sets (by rw [len_of_same HI8.out.both.same, HL1.out]; exact hn1) (fun m hm => by
      have := (right_bounds ((HI8.out.both.ok.same HI8.out.both.same).right m hm)).1; omega)
     clear hl8 hs8 hb8 hAL HI7
     go_wp2_with fail
     refine hAY.mono ?_
     rintro e w9 ⟨v9, l9, rfl, hl9, hs9, hb9, _⟩
     obtain ⟨x9, c9, hv9⟩ := hs9.form
     rw [len_of_same hl9, len_of_same HI8.out.both.same, HL1.out] at hv9
     subst hv9
     have HI9 := Lib.hid (HI8.out.after hb9)
     have hST := rsettings_any l8 l9 _ _ n x8 x9 c8 c9 w9 (HL8.out.2.below hb9) hs9 (by rw [HL8.out.1, hl9, HI8.out.both.same]) (by rw [len_of_same HL8.out.1]; exact HL1.out) hn1 (fun m hm => ((HI8.out.both.ok.same (hl9.trans HI8.out.both.same)).right m hm))
     clear hl9 hs9 hb9 hAY HI8 HL8
     go_wp2_with fail
     refine hST.mono ?_
     rintro e w10 ⟨rfl, hb10⟩
     have HI10 : Hid (∃ F1 hx1 hc1 ms1 ns1, EbIn B w2 w10 F1 X Y dx dc hx1 hc1 ks ms1 yk ck2 lv ns1 F Z hx hc ms N1 (.slice xw n cw) lw) := Lib.hid ⟨_, _, _, _, _, HI9.out.after hb10⟩
     clear hb10 hST HI9
     go_wp2
     go_roundw
     case rel => exact ⟨k + 1, by go_num, by omega, HI10⟩
     case measure => simp [intOf]; omega
    | none =>
     rw [hw] at hx6
     obtain ⟨rfl, hb6, F6, hx6', hc6, ms6, hF6, hly6, hok6, hl6, hz6⟩ := hx6
     obtain ⟨f1, f2, f3, f4, f5, f6, f7⟩ := HI1.out.both.first hly6 hok6 hF6 hb6
     have hSX := sexpand_any B Y w6 lv ks ns1 yk ck2 f4 f3 f5 (HM1.out.same HI1.out.both.same) (HI1.out.both.ok.same HI1.out.both.same)
     have hSX2 := hSX.mono fun e w' h => SxRes.same HI1.out.both.same h
     have HW := Lib.hid hw
     have HNX : Hid (∀ w7 ns7, SetsAt B w7 lv ns7 → w6.grownBy w7 lv.ownBlock → ns7.length = ms1.length → (∀ j (h1 : j < ns7.length) (h2 : j < ms1.length), ns7[j].x = expS ms1 j ms1[j].x) → EbIn B w2 w7 F6 X Y dx dc hx6' hc6 ks ms6 yk ck2 lv ns7 F Z hx hc ms N1 (.slice xw n cw) lw) := Lib.hid fun w7 ns7 h1 h2 h3 h4 =>
      HI1.out.next HSD.out hb6 hly6 hok6 hF6 h1 h2 (xs_same hl6 hz6 h3 h4)
     have HM6 := Lib.hid (made_ms HG.out hok6)
     have HL6 : Hid (ms6.length = n) := Lib.hid (by rw [hl6]; exact HL1.out)
     clear hSX hw f1 f2 f3 f4 f5 f6 f7 hb6 hly6 hok6 hF6 hl6 hz6
     go_wp2_with fail
     refine hSX2.mono ?_
     rintro e w7 hx7
     clear hSX2
     unfold SxRes at hx7
     rw [HW.out] at hx7
     obtain ⟨rfl, hg7, ns7, hs7, hl7, hz7⟩ := hx7
     have HI7 := Lib.hid (HNX.out w7 ns7 hs7 hg7 hl7 hz7)
     clear HNX hg7 hs7 hl7 hz7 HI1 HM1 HL1 HW
     have hAL := lall_any F6 X w7 dx hx6' dc hc6 ks ms6 HI7.out.both.a HI7.out.both.ok (by rw [HL6.out]; exact hn1)
     go_wp2_with fail
     refine hAL.mono ?_
     rintro e w8 ⟨v8, l8, rfl, hl8, hs8, hb8⟩
     obtain ⟨x8, c8, hv8⟩ := hs8.form
     rw [len_of_same hl8, HL6.out] at hv8
     subst hv8
     have HI8 := Lib.hid (HI7.out.after hb8)
     have HL8 := Lib.hid (And.intro hl8 hs8)
     have hAY := sall2_any B Y w8 _ lv ns7 HI8.out.both.obj HI8.out.both.sets (by rw [len_of_same HI8.out.both.same, HL6.out]; exact hn1) (fun m hm => by
      have := (right_bounds ((HI8.out.both.ok.same HI8.out.both.same).right m hm)).1; omega)
     clear hl8 hs8 hb8 hAL HI7
     go_wp2_with fail
     refine hAY.mono ?_
     rintro e w9 ⟨v9, l9, rfl, hl9, hs9, hb9, _⟩
     obtain ⟨x9, c9, hv9⟩ := hs9.form
     rw [len_of_same hl9, len_of_same HI8.out.both.same, HL6.out] at hv9
     subst hv9
     have HI9 := Lib.hid (HI8.out.after hb9)
     have hST := rsettings_any l8 l9 _ _ n x8 x9 c8 c9 w9 (HL8.out.2.below hb9) hs9 (by rw [HL8.out.1, hl9, HI8.out.both.same]) (by rw [len_of_same HL8.out.1]; exact HL6.out) hn1 (fun m hm => ((HI8.out.both.ok.same (hl9.trans HI8.out.both.same)).right m hm))
     clear hl9 hs9 hb9 hAY HI8 HL8
     go_wp2_with fail
     refine hST.mono ?_
     rintro e w10 ⟨rfl, hb10⟩
     have HI10 : Hid (∃ F1 hx1 hc1 ms1 ns1, EbIn B w2 w10 F1 X Y dx dc hx1 hc1 ks ms1 yk ck2 lv ns1 F Z hx hc ms N1 (.slice xw n cw) lw) := Lib.hid ⟨_, _, _, _, _, HI9.out.after hb10⟩
     clear hb10 hST HI9
     go_wp2
     go_roundw
     case rel => exact ⟨k + 1, by go_num, by omega, HI10⟩
     case measure => simp [intOf]; omega
   ·obtain rfl : k = 2 := by omega
    have q2 : ¬ ((2 : Nat) : Int) < 2 := by omega
    have hAL := lall_any F Z wr dx hx dc hc ks ms HI1.out.z HLW.out.2 (by rw [HLW.out.2.len, HN.out]; exact hn1)
    go_wp2_with fail
    refine hAL.mono ?_
    rintro e w8 ⟨v8, l8, rfl, hl8, hs8, hb8⟩
    obtain ⟨x8, c8, hv8⟩ := hs8.form
    rw [len_of_same hl8, HLW.out.2.len, HN.out] at hv8
    subst hv8
    have hST := rsettings_any l8 lw _ _ n x8 xw c8 cw w8 hs8 (HI1.out.was.below hb8) (by rw [hl8, HLW.out.1]) (by rw [len_of_same hl8, HLW.out.2.len, HN.out]) hn1 (fun m hm => ((HLW.out.2.same HLW.out.1).right m hm))
    have HB8 : Hid (Below w.heap.size w w8) := Lib.hid ((HBW.out _ HI1.out.both.below).trans (hb8.mono (HBW.out _ HI1.out.both.below).size))
    clear hl8 hs8 hb8 hAL HI1
    go_wp2_with fail
    refine hST.mono ?_
    rintro e w9 ⟨rfl, hb9⟩
    have HB9 : Hid (Below w.heap.size w w9) := Lib.hid (HB8.out.trans (hb9.mono HB8.out.size))
    clear hb9 hST
    go_wp2
    go_ret
    exact ⟨by first | rfl | simp, HB9.out⟩
end Go.Proofs.YtopghlnoklajkaaGreatDoor
