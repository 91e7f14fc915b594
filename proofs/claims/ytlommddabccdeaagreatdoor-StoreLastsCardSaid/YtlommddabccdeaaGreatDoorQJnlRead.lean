/-
  JnlPut0, JnlRead.
-/
import Derived.Test.YtlommddabccdeaaGreatDoorQJnlMath
namespace Go.Proofs.YtlommddabccdeaaGreatDoor
open Go.RowKit

def PutKind (h : HeadV) (rs : List (List UInt8)) (area behind : Nat) (rs0 : List (List UInt8)) : Prop :=
 (area = h.area ∧ behind = h.used ∧ rs0 = rs) ∨ (area = 1 - h.area ∧ behind = 0 ∧ rs0 = [])
def nBlk (behind : Nat) (s : List UInt8) : Nat := (behind % 64 + 2 + s.length + 63) / 64
def putH (h : HeadV) (area behind : Nat) (s : List UInt8) : HeadV := ⟨h.gen + 1, area, behind + (2 + s.length)⟩
theorem nBlk_fit {d : DskV} (hok : DskOk d) {area behind : Nat} {s : List UInt8} (ha : area < 2) (hb : behind + 2 + s.length ≤ arN d.ws * 64) : bkN d.ws area behind + nBlk behind s ≤ 1 + area * arN d.ws + arN d.ws ∧ 1 + area * arN d.ws + arN d.ws ≤ d.ws.length := by
 have hlo := hok.lo
 unfold bkN nBlk
 have h1 : behind / 64 + (behind % 64 + 2 + s.length + 63) / 64 ≤ arN d.ws := by omega
 refine ⟨by omega, ?_⟩
 unfold arN at *
 rcases Nat.lt_or_ge area 1 with h2 | h2
 ·have : area = 0 := by omega
  rw [this]; omega
 ·have : area = 1 := by omega
  rw [this]; omega
theorem put_old {d d' : DskV} (hok : DskOk d) {h : HeadV} {rs rs0 : List (List UInt8)} (hi : ImgOk d.ws h rs) {area behind : Nat} (hk : PutKind h rs area behind rs0) {s : List UInt8} (hb : behind + 2 + s.length ≤ arN d.ws * 64)
  {t : Nat} (ht : t ≤ nBlk behind s) (hl : Laid d (bkN d.ws area behind) (chunkL (putL d.ws area behind s) t) d') {img : List (List UInt8)} (hm : Mixed d' img) : ImgOk img h rs := by
 have harea := hi.area
 have hused := hi.used
 have ha : area < 2 := by
  rcases hk with ⟨h1, _⟩ | ⟨h1, _⟩ <;> omega
 refine mixed_old hl (by unfold bkN; omega) hi hok (fun k hk1 h1 h2 => ?_) hm
 rw [chunkL_len] at h2
 have hkA : k / 64 < arN d.ws := by omega
 rcases hk with ⟨e1, e2, _⟩ | ⟨e1, e2, _⟩
 ·subst e1 e2
  have e3 : k / 64 = h.used / 64 := by unfold bkN at h1; omega
  have e4 : bkN d.ws h.area k - bkN d.ws h.area h.used = 0 := by unfold bkN; omega
  have ht0 : 0 < t := by unfold bkN at h2; omega
  rw [e4, chunkL_get _ _ _ _ ht0 (by omega), (putL_get hok harea (by omega) _).1 (by omega)]
  congr 1
  omega
 ·subst e1 e2
  exfalso
  have hf := (nBlk_fit hok ha hb).1
  have ht2 : bkN d.ws (1 - h.area) 0 + t ≤ 1 + (1 - h.area) * arN d.ws + arN d.ws := by omega
  unfold bkN at h1 h2 ht2
  rcases Nat.lt_or_ge h.area 1 with h3 | h3
  ·have h4 : h.area = 0 := by omega
   rw [h4] at h1
   simp at h1
   omega
  ·have h4 : h.area = 1 := by omega
   rw [h4] at h2 ht2
   simp at h2 ht2
   omega
theorem bytesL_set0 (ws : List (List UInt8)) (b : List UInt8) (area n : Nat) : bytesL (ws.set 0 b) area n = bytesL ws area n := by
 refine bytesL_congr fun k _ => ?_
 unfold byteAt
 rw [bkN_congr (ws := ws) (ws' := ws.set 0 b) (by simp)]
 have : 0 ≠ bkN ws area k := by unfold bkN; omega
 simp only [List.getD, List.getElem?_set_ne this]
theorem put_new {d : DskV} (hok : DskOk d) {h : HeadV} {rs rs0 : List (List UInt8)} (hi : ImgOk d.ws h rs) (hg : h.gen ≠ 4611686018427387904) {area behind : Nat} (hk : PutKind h rs area behind rs0) {s : List UInt8} (hs : s.length ≤ 60000) (hb : behind + 2 + s.length ≤ arN d.ws * 64) :
  ImgOk ((jlayL d.ws (bkN d.ws area behind) (chunkL (putL d.ws area behind s) (nBlk behind s))).set 0 (headL (putH h area behind s))) (putH h area behind s) (rs0 ++ [s]) := by
 have harea := hi.area
 have hgen := hi.gen
 have hlo := hok.lo
 have ha : area < 2 := by
  rcases hk with ⟨h1, _⟩ | ⟨h1, _⟩ <;> omega
 refine ⟨?_, ?_, ha, ?_, ?_, ?_⟩
 ·simp [List.getD, jlayL_len, show 0 < d.ws.length by omega]
 ·show h.gen + 1 ≤ _; omega
 ·show behind + (2 + s.length) ≤ arN _ * 64
  rw [arN_congr (ws := d.ws) (by simp [jlayL_len])]
  omega
 ·rw [bytesL_set0]
  show bytesL _ area (behind + (2 + s.length)) = _
  rw [show nBlk behind s = (behind % 64 + 2 + s.length + 63) / 64 from rfl, laid_bytes hok ha hb, List.flatMap_append]
  congr 1
  ·rcases hk with ⟨e1, e2, e3⟩ | ⟨e1, e2, e3⟩
   ·rw [e1, e2, e3]; exact hi.bytes
   ·rw [e2, e3]; rfl
  ·simp
 ·intro r hr
  rcases List.mem_append.1 hr with h1 | h1
  ·rcases hk with ⟨e1, e2, e3⟩ | ⟨e1, e2, e3⟩
   ·rw [e3] at h1; exact hi.lens r h1
   ·rw [e3] at h1; cases h1
  ·rw [List.mem_singleton.1 h1]; exact hs
theorem mixed_head {d d' : DskV} (hok : DskOk d) {b : List UInt8} (hl : Laid d 0 [b] d') {img : List (List UInt8)} (hm : Mixed d' img) : img = d.ws ∨ img = d.ws.set 0 b := by
 obtain ⟨h1, h2⟩ := hm
 have hlo := hok.lo
 have e1 : d'.ws = d.ws.set 0 b := hl.ws
 have e2 : d'.ls = d.ws := hl.ls
 have hlen : img.length = d.ws.length := by rw [h1, e1, List.length_set]
 have hrest : ∀ i, i < d.ws.length → 0 < i → img.getD i [] = d.ws.getD i [] := fun i hi h0 => by
  rcases h2 i (by rw [e1, List.length_set]; exact hi) with h3 | ⟨_, h3⟩
  ·rw [h3, e1]
   simp only [List.getD, List.getElem?_set_ne (show 0 ≠ i by omega)]
  ·rw [h3, e2]
 rcases h2 0 (by rw [e1, List.length_set]; omega) with h3 | ⟨_, h3⟩
 ·right
  refine list_eq (by rw [hlen, List.length_set]) fun i hi => ?_
  rcases Nat.eq_zero_or_pos i with rfl | h0
  ·rw [h3, e1]
  ·rw [hrest i (by omega) h0]
   simp only [List.getD, List.getElem?_set_ne (show 0 ≠ i by omega)]
 ·left
  refine list_eq hlen fun i hi => ?_
  rcases Nat.eq_zero_or_pos i with rfl | h0
  ·rw [h3, e2]
  ·exact hrest i (by omega) h0
structure Settled (d : DskV) : Prop where
 ok : DskOk d
 ps : d.ps = []
 live : d.dead = false
theorem Settled.ls {d : DskV} (h : Settled d) : d.ls = d.ws := list_eq h.ok.len fun i _ => h.ok.same i (by rw [h.ps]; simp)
def PutRes (d : DskV) (h : HeadV) (rs : List (List UInt8)) (h' : HeadV) (rs' : List (List UInt8)) (e : Int) (d' : DskV) : Prop :=
 (d'.ws.length = d.ws.length ∧ (d.armed = 0 → e ≠ 2)) ∧ ((e = 0 ∧ Settled d' ∧ ImgOk d'.ws h' rs') ∨ (e = 2 ∧ DskOk d' ∧ d'.dead = true ∧ ∀ img, Mixed d' img → ImgOk img h rs ∨ ImgOk img h' rs'))
end Go.Proofs.YtlommddabccdeaaGreatDoor

namespace Go.Proofs.YtlommddabccdeaaGreatDoor
open Go.ChangeShapes Go.WideShapes Go.ChangeAt Go.RowKit

def JBld (B b : Nat) (l : List UInt8) (w : World) : Prop := Lib.IsBuilder (Tryz.lays105_ren.t 72) (Tryz.lays105_ren.t 5) B b (Lib.byteCells l) w
theorem jbAt_below {T e : TypeId} {B b : Nat} {p : Value} {bs : List Value} {w w' : World} (h : Lib.BuilderAt T e B b p bs w) (hb : Below w.heap.size w w') : Lib.BuilderAt T e B b p bs w' := by
 have hlt := h.lt
 obtain ⟨hB, v, hk, hown, hne⟩ := h
 exact ⟨hB, v, (hb.block b hlt).trans hk, hown.kept (row := none) ⟨hb.os, hb.tape, hb.output, hb.size, fun k hk _ => hb.block k hk⟩ (by cases hv : v.ownBlock <;> simp), hne⟩
theorem JBld.below {B b : Nat} {l : List UInt8} {w w' : World} (h : JBld B b l w) (hb : Below w.heap.size w w') : JBld B b l w' := by
 rcases h with h | h
 ·exact .inl (jbAt_below h hb)
 ·exact .inr (jbAt_below h hb)
theorem JBld.new (w : World) : JBld w.heap.size w.heap.size [] (w.alloc (Obj.cells #[.pointer none, .slice none 0 0] 153)) :=
 .inl ⟨Nat.le_refl _, .slice none 0 0, heap_alloc_new w _, World.ownsRow_nil _ _ _ _, by simp [Value.ownBlock]⟩
theorem jwrite_any (B b : Nat) (l s : List UInt8) (w : World) (h : JBld B b l w) (hl : l.length + s.length ≤ 140737488355328) (hB : B ≤ w.heap.size) :
  Calls Tryz.prog 113 #[.pointer (some ⟨b, 0, none⟩), .string (bOf s)] w fun e w' => e = .returned (.tuple #[.int .i64 (bOf s).size, .nilIface]) ∧ JBld B b (l ++ s) w' ∧ Below B w w' :=
 (Any.Builder_WriteString { Tryz.lays105 with } Tryz.Builder_Extra_105 B b (Lib.byteCells l) (bOf s) w h (by rw [Lib.byteCells_length, bOf_size]; exact hl) hB).mono fun e w' ⟨he, h1, h2⟩ => ⟨he, .inr (by rw [Lib.byteCells_append]; exact h1), h2⟩
theorem jstring_any (B b : Nat) (l : List UInt8) (w : World) (h : JBld B b l w) (hB : B ≤ w.heap.size) :
  Calls Tryz.prog 114 #[.pointer (some ⟨b, 0, none⟩)] w fun e w' => e = .returned (.string (bOf l)) ∧ Below B w w' :=
 Any.Builder_String_any { Tryz.lays105 with } Tryz.Builder_Extra_105 B b l w h hB
theorem jlen_any (B b : Nat) (l : List UInt8) (w : World) (h : JBld B b l w) :
  Calls Tryz.prog 111 #[.pointer (some ⟨b, 0, none⟩)] w fun e w' => e = .returned (.int .i64 l.length) ∧ w = w' := by
 have := Any.Builder_Len { Tryz.lays105 with } B b (Lib.byteCells l) w h
 rw [Lib.byteCells_length] at this
 exact this.mono fun e w' ⟨h1, h2⟩ => ⟨h1, h2.symm⟩
def bldLen (b : Nat) (w : World) : Nat := match w.cell? ⟨b, 1, none⟩ with
 | some (.slice _ n _) => n
 | _ => 0
theorem JBld.len {B b : Nat} {l : List UInt8} {w : World} (h : JBld B b l w) : bldLen b w = l.length := by
 obtain ⟨p, hB, v, hbk, hown, hne⟩ : ∃ p, Lib.BuilderAt (Tryz.lays105_ren.t 72) (Tryz.lays105_ren.t 5) B b p (Lib.byteCells l) w := by
  rcases h with h | h
  ·exact ⟨_, h⟩
  ·exact ⟨_, h⟩
 have c1 := cell_at hbk (k := 1) rfl
 unfold bldLen
 rw [c1]
 rcases hown.2 with ⟨rfl, h0⟩ | ⟨g, cap, cur, rfl, _⟩
 ·rw [Lib.byteCells_length] at h0; rw [h0]; rfl
 ·show (Lib.byteCells l).length = _
  rw [Lib.byteCells_length]
set_option maxHeartbeats 1600000 in
theorem firstBytes_any (w : World) (J : Nat) (D : DskP) (d : DskV) (h : HeadV) (q : Bool) (hJ : JnlAt w J D.p h q) (hD : DskAt w D d) (hok : DskOk d) (hd : d.dead = false) (area n : Nat) (ha : area < 2) (hn : n ≤ arN d.ws * 64) :
  Calls Tryz.prog 84 #[.pointer (some ⟨J, 0, none⟩), .int .i64 area, .int .i64 n] w fun e w' => e = .returned (.tuple #[.string (bOf (bytesL d.ws area n)), .int .i64 0]) ∧ Below w.heap.size w w' := by
 have hA := areaN_le hok
 have eA : arN d.ws = areaN d := rfl
 have hc0 := cell_at hJ (k := 0) rfl
 have HJ0 : Hid (∀ W, Below w.heap.size w W → W.cell? ⟨J, 0, none⟩ = some (.pointer (some ⟨D.p, 0, none⟩))) := Lib.hid fun W hW => (hW.cell (p := ⟨J, 0, none⟩) (lt_of_heap hJ)).trans hc0
 have HBA : Hid (∀ W, Below w.heap.size w W → ∀ t, t * 64 < n → Calls Tryz.prog 112 #[.pointer (some ⟨J, 0, none⟩), .int .i64 area, .int .i64 ((t * 64 : Nat) : Int)] W fun e w' => e = .returned (.int .i64 ((bkN d.ws area (t * 64) : Nat) : Int)) ∧ W = w') := Lib.hid fun W hW t ht =>
  blockAt_any W J D d h q ((hW.block _ (lt_of_heap hJ)).trans hJ) (hD.below hW) hok area (t * 64) ha (by omega)
 have HRD : Hid (∀ W, Below w.heap.size w W → ∀ t, t * 64 < n → ∃ b : List UInt8, d.ws[bkN d.ws area (t * 64)]? = some b ∧ b.length = 64 ∧ Calls Tryz.prog 54 #[.pointer (some ⟨D.p, 0, none⟩), .int .i64 ((bkN d.ws area (t * 64) : Nat) : Int)] W fun e w' => e = .returned (.tuple #[.string (bOf b), .int .i64 0]) ∧ Below W.heap.size W w') := Lib.hid fun W hW t ht => by
  have hb := bkN_lt hok ha (show t * 64 < arN d.ws * 64 by omega)
  exact ⟨d.ws[bkN d.ws area (t * 64)], List.getElem?_eq_getElem hb, hok.w64 _ (List.getElem_mem hb), dread_any W D d (hD.below hW) hok hd _ _ (List.getElem?_eq_getElem hb)⟩
 have HN := Lib.hid (show n ≤ 1000000 by omega)
 have HB0 : Hid (Below w.heap.size w (w.alloc (Obj.cells #[.pointer none, .slice none 0 0] 153))) := Lib.hid ((Below.refl _ w).alloc (Nat.le_refl _) _)
 have HJB := Lib.hid (JBld.new w)
 clear hJ hD hok hd hn hA eA hc0
 go_enter Tryz.func84, Tryz.ntmps84
 go_wp2
 go_loopw [9, 10] (fun _ _ wr => ∃ t : Nat, Hid (JBld w.heap.size w.heap.size (bytesL d.ws area (t * 64)) wr ∧ Below w.heap.size w wr ∧ t * 64 ≤ n + 63)) (fun _ _ wr => n + 64 - bldLen w.heap.size wr)
 case atStart => exact ⟨0, Lib.hid ⟨HJB.out, HB0.out, by omega⟩⟩
 case round =>
  obtain ⟨t, HR⟩ := hrel
  have HBD : Hid (Below wr.heap.size wr wr.drew) := Lib.hid ⟨rfl, rfl, rfl, Nat.le_refl _, fun _ _ => rfl⟩
  have HBW : Hid (Below w.heap.size w wr.drew) := Lib.hid (HR.out.2.1.trans (HBD.out.mono HR.out.2.1.size))
  have HLN : Hid (∀ W, Below wr.heap.size wr W → Calls Tryz.prog 111 #[.pointer (some ⟨w.heap.size, 0, none⟩)] W fun e w' => e = .returned (.int .i64 ((t * 64 : Nat) : Int)) ∧ W = w') := Lib.hid fun W hW => by
   have := jlen_any _ _ _ W (HR.out.1.below hW)
   rw [bytesL_len] at this
   exact this
  have HL0 := Lib.hid (HLN.out wr (Below.refl _ _))
  have HL1 := Lib.hid (HLN.out wr.drew HBD.out)
  by_cases hlt : t * 64 < n
  ·obtain ⟨b, hb, h64, hrd⟩ := HRD.out wr.drew HBW.out t hlt
   have HBA1 := Lib.hid (HBA.out wr.drew HBW.out t hlt)
   have HRD1 := Lib.hid hrd
   have HE := Lib.hid (bytesL_block d.ws area t b hb h64)
   have H64 := Lib.hid h64
   have cJ := HJ0.out wr HR.out.2.1
   have HWB : Hid (∀ W, Below wr.drew.heap.size wr.drew W → Calls Tryz.prog 113 #[.pointer (some ⟨w.heap.size, 0, none⟩), .string (bOf b)] W fun e w' => ∃ k, e = .returned (.tuple #[.int .i64 k, .nilIface]) ∧ JBld w.heap.size w.heap.size (bytesL d.ws area ((t + 1) * 64)) w' ∧ Below w.heap.size W w') := Lib.hid fun W hW => by
    have hx := HBD.out.trans (hW.mono (Nat.le_refl _))
    refine (jwrite_any w.heap.size w.heap.size _ b W (HR.out.1.below hx) (by rw [bytesL_len, h64]; have := HN.out; omega) (Nat.le_trans HBW.out.size hW.size)).mono fun e w' ⟨h1, h2, h3⟩ => ⟨_, h1, ?_, h3⟩
    rw [show (t + 1) * 64 = t * 64 + 64 by omega, HE.out]
    exact h2
   have HJD : Hid (wr.drew.cell? ⟨J, 0, none⟩ = some (.pointer (some ⟨D.p, 0, none⟩))) := Lib.hid cJ
   have q1 : ((t * 64 : Nat) : Int) < n := by omega
   have HHT := Lib.hid hlt
   have HKS : Hid (∀ W W', W.cell? ⟨J, 0, none⟩ = some (.pointer (some ⟨D.p, 0, none⟩)) → Below W.heap.size W W' → W'.cell? ⟨J, 0, none⟩ = some (.pointer (some ⟨D.p, 0, none⟩))) := Lib.hid fun W W' hc hb => (hb.cell (p := ⟨J, 0, none⟩) (World.block_lt_of_cell? W _ hc)).trans hc
   clear hb h64 hrd hlt
   generalize ((bkN d.ws area (t * 64) : Nat) : Int) = BK at *
   generalize ((t * 64 : Nat) : Int) = T64 at *
   generalize bOf b = SB at *
   go_wp2_with (go_at_call 111; refine HL0.out.mono ?_; rintro e w2 ⟨rfl, rfl⟩)
   go_region_held3 (fun W => W.cell? ⟨J, 0, none⟩ = some (.pointer (some ⟨D.p, 0, none⟩))) (first | exact KS.out | exact cJ) (first
    | (go_at_call 111; (with_reducible refine HL1.out.mono ?_); rintro e w2 ⟨rfl, rfl⟩; dsimp only)
    | (go_at_call 112; (with_reducible refine HBA1.out.mono ?_); rintro e w2 ⟨rfl, rfl⟩; dsimp only)
    | (go_at_call 54; (with_reducible refine HRD1.out.mono ?_); rintro e w2 ⟨rfl, hb2⟩; have KS := Lib.hid (HKS.out _ _ HJD.out hb2); have HB2 := Lib.hid hb2; clear hb2; dsimp only)
    | fail)
   go_wp2_with (go_at_call 113; refine (HWB.out _ HB2.out).mono ?_; rintro e w3 ⟨k3, rfl, h3, hb3⟩; have H3 := Lib.hid (And.intro h3 hb3); clear h3 hb3)
   have HLE : Hid (bldLen w.heap.size wr = t * 64 ∧ bldLen w.heap.size w3 = (t + 1) * 64) := Lib.hid ⟨by rw [HR.out.1.len, bytesL_len], by rw [H3.out.1.len, bytesL_len]⟩
   go_roundw
   case rel => exact ⟨t + 1, Lib.hid ⟨H3.out.1, (HBW.out.trans (HB2.out.mono HBW.out.size)).trans H3.out.2, by have := HHT.out; omega⟩⟩
   case measure => rw [HLE.out.1, HLE.out.2]; have := HHT.out; omega
  ·have q1 : ¬ ((t * 64 : Nat) : Int) < n := by omega
   have HST : Hid (Calls Tryz.prog 114 #[.pointer (some ⟨w.heap.size, 0, none⟩)] wr fun e w' => e = .returned (.string (bOf (bytesL d.ws area (t * 64)))) ∧ Below w.heap.size wr w') := Lib.hid (jstring_any _ _ _ wr HR.out.1 HR.out.2.1.size)
   have hsz : (bOf (bytesL d.ws area (t * 64))).size = t * 64 := by rw [bOf_size, bytesL_len]
   have hex : (bOf (bytesL d.ws area (t * 64))).extract 0 n = bOf (bytesL d.ws area n) := by rw [bOf_ext, List.drop_zero, bytesL_take _ _ _ _ (by omega)]
   have q2 : (0 : Int) ≤ n := by omega
   have q3 : (n : Int) ≤ ((t * 64 : Nat) : Int) := by omega
   have q4 : n ≤ t * 64 := by omega
   generalize bOf (bytesL d.ws area (t * 64)) = SB at *
   obtain ⟨SN, hSN⟩ : ∃ SN, bOf (bytesL d.ws area n) = SN := ⟨_, rfl⟩
   rw [hSN] at hex
   have HSN := Lib.hid hSN
   clear hlt hSN
   generalize t * 64 = T64 at *
   go_wp2_with (first
    | (go_at_call 111; refine HL0.out.mono ?_; rintro e w2 ⟨rfl, rfl⟩)
    | (go_at_call 114; refine HST.out.mono ?_; rintro e w3 ⟨rfl, hb3⟩; have HB3 := Lib.hid hb3; clear hb3))
   go_ret2
   exact ⟨by rw [HSN.out]; rfl, HR.out.2.1.trans HB3.out⟩
end Go.Proofs.YtlommddabccdeaaGreatDoor
