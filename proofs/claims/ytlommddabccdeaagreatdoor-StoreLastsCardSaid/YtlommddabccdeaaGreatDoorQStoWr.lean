/-
  StoWith, StoWr.
-/
import Derived.Test.YtlommddabccdeaaGreatDoorQStoSml
import Derived.Test.YtlommddabccdeaaGreatDoorQCodecWriter
namespace Go.Proofs.YtlommddabccdeaaGreatDoor
open Go.ChangeShapes Go.WideShapes Go.ChangeAt Go.RowKit

structure WithAt (w wr : World) (G C r : Nat) (ps nx : List PairV) : Prop where
 at_ : ∃ left cnt g n, KRng wr G r (chgF ps nx) left cnt ∧ KMap wr C n g ∧ ∀ t k : ByteArray, t.size ≤ maxLen → k.size ≤ maxLen → g t k = if left t k then comF ps t k else comF nx t k
 below : Below w.heap.size w wr
 ge : w.heap.size ≤ C ∧ G < w.heap.size ∧ w.heap.size ≤ r ∧ C ≠ r
theorem with_le {w : World} {C n : Nat} {g : ByteArray → ByteArray → Option Value} {left : ByteArray → ByteArray → Bool} {ps nx : List PairV} (hp : Rise ps) (hx : Rise nx) (h : KMap w C n g) (hg : ∀ t k : ByteArray, t.size ≤ maxLen → k.size ≤ maxLen → g t k = if left t k then comF ps t k else comF nx t k) : n ≤ ps.length + nx.length := by
 have := h.le (ptsL ps ++ ptsL nx) fun t k a b hs => by
  rw [hg t k a b] at hs
  rw [List.mem_append]
  cases hl : left t k <;> rw [hl] at hs
  ·right
   have hs2 : (comF nx t k).isSome = true := hs
   unfold comF at hs2
   rw [Option.isSome_map] at hs2
   obtain ⟨v, hv⟩ := Option.isSome_iff_exists.1 hs2
   exact look_some_mem hx hv
  ·left
   have hs2 : (comF ps t k).isSome = true := hs
   unfold comF at hs2
   rw [Option.isSome_map] at hs2
   obtain ⟨v, hv⟩ := Option.isSome_iff_exists.1 hs2
   exact look_some_mem hp hv
 rw [List.length_append] at this
 simpa [ptsL] using this
theorem WithAt.start {w w1 w2 : World} {G C n m cnt : Nat} {ps nx : List PairV} (hb : Below w.heap.size w w1) (hc : KMap w1 C n (comF ps)) (hge : w.heap.size ≤ C) (hG : G < w.heap.size) (hr : KRng w2 G w1.heap.size (chgF ps nx) (fun t k => (chgF ps nx t k).isSome) cnt) (hb2 : Below w1.heap.size w1 w2) (_hm : m = 0) : WithAt w w2 G C w1.heap.size ps nx := by
 refine ⟨⟨_, cnt, _, n, hr, hc.below hb2, fun t k _ _ => ?_⟩, hb.trans (hb2.mono hb.size), hge, hG, hb.size, Nat.ne_of_lt hc.lt⟩
 split
 ·rfl
 ·rename_i h
  unfold chgF at h
  split at h
  ·rename_i e; unfold comF; rw [e]
  ·exact absurd rfl h
theorem WithAt.came {w wr w2 w3 w4 : World} {G C r n' cnt : Nat} {ps nx : List PairV} {left : ByteArray → ByteArray → Bool} {g : ByteArray → ByteArray → Option Value} {t k : ByteArray} (h : WithAt w wr G C r ps nx)
  (hg : ∀ t k : ByteArray, t.size ≤ maxLen → k.size ≤ maxLen → g t k = if left t k then comF ps t k else comF nx t k)
  (hr : KRng w2 G r (chgF ps nx) (strikeK left t k) cnt) (hb2 : wr.grownBy w2 (some r)) (hb3 : Below w2.heap.size w2 w3) (hm : KMap w4 C n' (updK g t k ((lookP nx t k).map fun v => conV (some v)))) (hu : Upd [C] w3 w4) : WithAt w w4 G C r ps nx := by
 obtain ⟨h1, h2, h3, h4⟩ := h.ge
 have hlt := hr.lt
 have hz := h.below.size
 have keep : ∀ i, i < w2.heap.size → i ≠ C → w4.heap[i]? = w2.heap[i]? := fun i hi hn => by
  rw [hu.block i (Nat.lt_of_lt_of_le hi hb3.size) (by simpa using hn)]
  exact hb3.block i hi
 refine ⟨⟨_, cnt, _, n', hr.same (keep G hlt.1 (by omega)) (keep r hlt.2 (by omega)), hm, fun t' k' a b => ?_⟩, ?_, h.ge⟩
 ·unfold updK strikeK
  by_cases e : t' = t ∧ k' = k
  ·obtain ⟨rfl, rfl⟩ := e
   simp [comF]
  ·rw [if_neg e, hg t' k' a b]
   simp [e]
 ·have hb := h.below
  refine ⟨(hu.os.trans hb3.os).trans (hb2.os.trans hb.os), (hu.tape.trans hb3.tape).trans (hb2.tape.trans hb.tape), (hu.output.trans hb3.output).trans (hb2.output.trans hb.output), Nat.le_trans hb.size (Nat.le_trans hb2.size (Nat.le_trans hb3.size hu.size)), fun i hi => ?_⟩
  rw [keep i (Nat.lt_of_lt_of_le hi (Nat.le_trans hb.size hb2.size)) (by omega), hb2.block i (Nat.lt_of_lt_of_le hi hb.size) (by simp; omega)]
  exact hb.block i hi
set_option maxHeartbeats 1600000 in
set_option maxRecDepth 100000 in
theorem with_any (w : World) (C G n m : Nat) (ps nx : List PairV) (hp : Rise ps) (hx : Rise nx) (hl : ps.length + nx.length ≤ 1000000) (hC : KMap w C n (comF ps)) (hG : KMap w G m (chgF ps nx)) :
  Calls Tryz.prog 29 #[.map (some C), .map (some G)] w fun e w' => ∃ C' n', e = .returned (.map (some C')) ∧ w.heap.size ≤ C' ∧ KMap w' C' n' (comF nx) ∧ Below w.heap.size w w' := by
 have HCL : Hid (∀ W, Below w.heap.size w W → Calls Tryz.prog 46 #[.map (some C)] W fun e w' => e = .returned (.map (some W.heap.size)) ∧ KMap w' W.heap.size n (comF ps) ∧ Below W.heap.size W w') := Lib.hid fun W hW => kclone_any C n _ W (hC.below hW)
 have HG := Lib.hid hG
 have HX := Lib.hid (And.intro hp (And.intro hx hl))
 have HGL : Hid (G < w.heap.size) := Lib.hid hG.lt
 clear hp hx hl hC hG
 go_enter Tryz.func29, Tryz.ntmps29
 go_wp2_with (first
  | (go_at_call 46; refine (HCL.out _ (Below.refl _ _)).mono ?_; rintro e w1 ⟨rfl, hc1, hb1⟩; have H1 := Lib.hid (And.intro hc1 hb1); have HG1 := Lib.hid (HG.out.below hb1); clear hc1 hb1)
  | (at_range; refine wpList_range_k rfl _ _ _ rfl Tryz.underlying59 rfl HG1.out ?_; intro w2 hr2 hb2 hz2)
  | go_in)
 have HR2 := Lib.hid (WithAt.start (m := 0) H1.out.2 H1.out.1 (Nat.le_refl _) HGL.out hr2 hb2 rfl)
 have HZ1 := Lib.hid H1.out.1.lt
 clear hr2 hb2 hz2
 go_frame
 go_loopw [6, 7] (fun _ _ wr => Hid (WithAt w wr G w.heap.size w1.heap.size ps nx)) (fun _ _ wr => wr.rangeLeft G w1.heap.size)
 case atStart => exact HR2
 case round =>
  have HR := hrel
  clear hrel
  obtain ⟨left, cnt, g, n1, hrng, hmap, hg⟩ := HR.out.at_
  have HGG := Lib.hid (And.intro hrng (And.intro hmap hg))
  have HN := Lib.hid (with_le HX.out.1 HX.out.2.1 hmap hg)
  clear hmap hg
  go_wp2_with (first
   | (at_next; refine wpList_next_k rfl _ rfl rfl hrng ?_ ?_)
   | go_in)
  ·intro hl0
   have HE : Hid (∃ n', KMap wr w.heap.size n' (comF nx)) := Lib.hid ⟨_, HGG.out.2.1.ext2 fun t k a b => by rw [HGG.out.2.2 t k a b, hl0 t k a b]; rfl⟩
   clear hl0 hrng
   go_wp2
   go_ret
   obtain ⟨n', hn⟩ := HE.out
   exact ⟨_, n', rfl, Nat.le_refl _, hn, HR.out.below⟩
  ·intro t k u w2 cnt2 h1 h2 _ hu hk2 hlt hg2 hen
   have HLT : Hid (cnt2 < cnt ∧ wr.rangeLeft G w1.heap.size = cnt) := Lib.hid ⟨hlt, hrng.left_eq⟩
   have hmap2 : KMap w2 w.heap.size n1 g := HGG.out.2.1.same (hg2.block _ HGG.out.2.1.lt (by have := HR.out.ge.2.2.2; simpa using this))
   have HB3 : Hid (∀ a b, Below w2.heap.size w2 ((w2.alloc a).alloc b)) := Lib.hid fun a b => ((Below.refl _ w2).alloc (Nat.le_refl _) _).alloc (by simp) _
   have HFIN : Hid (∀ a b w4 n', KMap w4 w.heap.size n' (updK g t k ((lookP nx t k).map fun v => conV (some v))) → Upd [w.heap.size] ((w2.alloc a).alloc b) w4 → WithAt w w4 G w.heap.size w1.heap.size ps nx ∧ w4.rangeLeft G w1.heap.size = cnt2) := Lib.hid fun a b w4 n' hm hu => by
    have hz := HZ1.out
    refine ⟨HR.out.came HGG.out.2.2 hk2 hg2 (HB3.out a b) hm hu, ?_⟩
    have keep : ∀ i, i < w2.heap.size → i ≠ w.heap.size → w4.heap[i]? = w2.heap[i]? := fun i hi hn => by
     rw [hu.block i (Nat.lt_of_lt_of_le hi (HB3.out a b).size) (by simpa using hn)]
     exact (HB3.out a b).block i hi
    have hlt := hk2.lt
    have hGl := HGL.out
    exact (hk2.same (keep G hlt.1 (by omega)) (keep _ hlt.2 (by omega))).left_eq
   have HPT : Hid (∀ a b, Calls Tryz.prog 47 #[.map (some w.heap.size), plcV t k, conV (lookP nx t k)] ((w2.alloc a).alloc b) fun e w' => e = .returned (.tuple #[]) ∧ (∃ n', KMap w' w.heap.size n' (updK g t k ((lookP nx t k).map fun v => conV (some v)))) ∧ Upd [w.heap.size] ((w2.alloc a).alloc b) w') := Lib.hid fun a b =>
    cput_any _ w.heap.size n1 g (hmap2.below (HB3.out a b)) t k h1 h2 (lookP nx t k) (by have h3 := HN.out; have h4 := HX.out.2.2; unfold maxLen; omega)
   have hu2 : u = conV (lookP nx t k) := by
    unfold chgF at hu
    split at hu
    ·cases hu
    ·exact (Option.some.inj hu).symm
   clear hlt hg2 hk2 hu hrng hmap2 h1 h2
   subst hu2
   generalize lookP nx t k = o at *
   unfold plcV at hen HPT ⊢
   cases o with
   | some v =>
    unfold conV at hen HPT ⊢
    go_wp2_with (go_at_call 47; (with_reducible refine (HPT.out _ _).mono ?_); rintro e w4 ⟨rfl, ⟨n', hm4⟩, hu4⟩; have HF := Lib.hid (HFIN.out _ _ _ _ hm4 hu4); clear hm4 hu4)
    go_roundw
    case rel => exact Lib.hid HF.out.1
    case measure => rw [HF.out.2, HLT.out.2]; exact HLT.out.1
   | none =>
    unfold conV at hen HPT ⊢
    go_wp2_with (go_at_call 47; (with_reducible refine (HPT.out _ _).mono ?_); rintro e w4 ⟨rfl, ⟨n', hm4⟩, hu4⟩; have HF := Lib.hid (HFIN.out _ _ _ _ hm4 hu4); clear hm4 hu4)
    go_roundw
    case rel => exact Lib.hid HF.out.1
    case measure => rw [HF.out.2, HLT.out.2]; exact HLT.out.1
end Go.Proofs.YtlommddabccdeaaGreatDoor

namespace Go.Proofs.YtlommddabccdeaaGreatDoor
open Go.ChangeShapes Go.WideShapes Go.ChangeAt Go.RowKit

def stW (m : Int) (t : List UInt8) : List UInt8 × Int := if (t.length : Int) ≤ m then (t, 0) else ([], 31)
theorem layW (m : Int) (t r : List UInt8) : layL m (stW m t) (r, 0) = stW m (t ++ r) := by
  unfold layL stW
  by_cases h : (t.length : Int) ≤ m
  · rw [if_pos h]
    by_cases h2 : m - t.length < (r.length : Int)
    · rw [if_neg (by simp), if_neg (by simp), if_pos h2, if_neg (by rw [List.length_append]; omega)]
    · rw [if_neg (by simp), if_neg (by simp), if_neg h2, if_pos (by rw [List.length_append]; omega)]
  · rw [if_neg h, if_pos (by simp), if_neg (by rw [List.length_append]; omega)]
theorem stW_len {m : Int} {t : List UInt8} (hm : m ≤ 60000) : (stW m t).1.length ≤ 60000 := by
  unfold stW
  split
  · show t.length ≤ 60000; omega
  · simp
theorem numW0 : numRow 0 = (rowL 0, 0) := by unfold numRow; rw [if_neg (by omega)]; rfl
theorem numW1 : numRow 1 = (rowL 1, 0) := by unfold numRow; rw [if_neg (by omega)]; rfl
theorem textW {s : ByteArray} (h : s.size ≤ 65535) : textRow s.data.toList = (txL s, 0) := by
  unfold textRow txL
  rw [if_neg (by have : s.data.toList.length = s.size := by simp
                 omega)]
def conL (says : Nat) (o : Option ByteArray) : List UInt8 := if says = 0 then (match o with
  | none => rowL 0
  | some v => rowL 1 ++ txL v) else txL (o.getD emB)
def RecAt (w0 w : World) (b : Nat) (m : Int) (t : List UInt8) (x : Option Addr) (L : List Plc) (A : List (Nat × Obj)) : Prop :=
  ∃ F, Wtr w b F m (stW m t) ∧ (∀ k ∈ F, w0.heap.size ≤ k) ∧ Below w0.heap.size w0 w ∧ PlsAt w x L ∧ (0 < L.length → ∀ g o, x = some ⟨g, o, none⟩ → g ∉ F) ∧ ∀ q ∈ A, w.heap[q.1]? = some q.2 ∧ q.1 ∉ F
section
variable {w0 w w' : World} {b : Nat} {m : Int} {t t' : List UInt8} {x : Option Addr} {L : List Plc} {A : List (Nat × Obj)}
theorem RecAt.below (h : RecAt w0 w b m t x L A) (hb : Below w.heap.size w w') : RecAt w0 w' b m t x L A := by
  obtain ⟨F, h1, h2, h3, h4, h5, h6⟩ := h
  exact ⟨F, h1.kept fun k hk => hb.block k (h1.lt k hk), h2, h3.trans (hb.mono h3.size), h4.below hb, h5, fun q hq => ⟨(hb.block _ (lt_of_heap (h6 q hq).1)).trans (h6 q hq).1, (h6 q hq).2⟩⟩
theorem RecAt.since (h : RecAt w0 w b m t x L A) : Below w0.heap.size w0 w := by
  obtain ⟨_, _, _, h3, _⟩ := h
  exact h3
theorem RecAt.alloc (h : RecAt w0 w b m t x L A) (o : Obj) : RecAt w0 (w.alloc o) b m t x L ((w.heap.size, o) :: A) := by
  have hlt : ∀ F, Wtr w b F m (stW m t) → w.heap.size ∉ F := fun F hw hx => by have := hw.lt _ hx; omega
  obtain ⟨F, h1, h2, h3, h4, h5, h6⟩ := h
  have hb : Below w.heap.size w (w.alloc o) := (Below.refl _ w).alloc (Nat.le_refl _) _
  refine ⟨F, h1.kept fun k hk => hb.block k (h1.lt k hk), h2, h3.trans (hb.mono h3.size), h4.below hb, h5, fun q hq => ?_⟩
  rcases List.mem_cons.1 hq with rfl | hq
  · exact ⟨heap_alloc_new w o, hlt F h1⟩
  · exact ⟨(hb.block _ (lt_of_heap (h6 q hq).1)).trans (h6 q hq).1, (h6 q hq).2⟩
theorem RecAt.less (h : RecAt w0 w b m t x L A) {A' : List (Nat × Obj)} (ha : ∀ q ∈ A', q ∈ A) : RecAt w0 w b m t x L A' := by
  obtain ⟨F, h1, h2, h3, h4, h5, h6⟩ := h
  exact ⟨F, h1, h2, h3, h4, h5, fun q hq => h6 q (ha q hq)⟩
theorem RecAt.block {p : Nat} {o : Obj} (h : RecAt w0 w b m t x L ((p, o) :: A)) : w.heap[p]? = some o := by
  obtain ⟨F, h1, h2, h3, h4, h5, h6⟩ := h
  exact (h6 (p, o) List.mem_cons_self).1
theorem RecAt.step {e : Ending} {F : List Nat} (_h1 : Wtr w b F m (stW m t)) (h2 : ∀ k ∈ F, w0.heap.size ≤ k) (h3 : Below w0.heap.size w0 w) (h4 : PlsAt w x L) (h5 : 0 < L.length → ∀ g o, x = some ⟨g, o, none⟩ → g ∉ F) (h6 : ∀ q ∈ A, w.heap[q.1]? = some q.2 ∧ q.1 ∉ F) (hs : WStep w b F m (stW m t') e w') : e = .returned (.tuple #[]) ∧ RecAt w0 w' b m t' x L A := by
  obtain ⟨he, F', hw, hu, hF⟩ := hs
  refine ⟨he, F', hw, fun k hk => ?_, ⟨hu.os.trans h3.os, hu.tape.trans h3.tape, hu.output.trans h3.output, Nat.le_trans h3.size hu.size, fun i hi => (hu.block i (Nat.lt_of_lt_of_le hi h3.size) (fun hx => by have := h2 i hx; omega)).trans (h3.block i hi)⟩, fun k hk => ?_, fun h0 g o hx hg => ?_, fun q hq => ⟨(hu.block _ (lt_of_heap (h6 q hq).1) (h6 q hq).2).trans (h6 q hq).1, fun hx => ?_⟩⟩
  · rcases hF k hk with h | h
    · exact h2 k h
    · exact Nat.le_trans h3.size h
  · obtain ⟨g, off, e1, hl, c0, c1⟩ := h4 k hk
    have hn := h5 (by omega) g off e1
    exact ⟨g, off, e1, Nat.lt_of_lt_of_le hl hu.size, (hu.cell hl hn _).trans c0, (hu.cell hl hn _).trans c1⟩
  · rcases hF g hg with h | h
    · exact h5 h0 g o hx h
    · obtain ⟨g', off, e1, hl, _⟩ := h4 0 h0
      rw [hx] at e1
      injection e1 with e1
      injection e1 with e1
      omega
  · rcases hF _ hx with h | h
    · exact (h6 q hq).2 h
    · have := lt_of_heap (h6 q hq).1; omega
theorem recNum (h : RecAt w0 w b m t x L A) (hm : 0 ≤ m) (hm2 : m ≤ 60000) (n : Nat) (hn : n = 0 ∨ n = 1) :
    Calls Tryz.prog 71 #[.pointer (some ⟨b, 0, none⟩), .int .i64 n] w fun e w' => e = .returned (.tuple #[]) ∧ RecAt w0 w' b m (t ++ rowL n) x L A := by
  obtain ⟨F, h1, h2, h3, h4, h5, h6⟩ := h
  have hl := stW_len (t := t) hm2
  have h := num_any w b F m (stW m t) n h1 hm (by omega) (by omega) (by omega)
  have e : numRow (n : Int) = (rowL n, 0) := by rcases hn with rfl | rfl; exact numW0; exact numW1
  rw [e, layW] at h
  exact h.mono fun e w' hs => RecAt.step h1 h2 h3 h4 h5 h6 hs
theorem recText (h : RecAt w0 w b m t x L A) (hm : 0 ≤ m) (hm2 : m ≤ 60000) (s : ByteArray) (hs : s.size ≤ 65535) :
    Calls Tryz.prog 72 #[.pointer (some ⟨b, 0, none⟩), .string s] w fun e w' => e = .returned (.tuple #[]) ∧ RecAt w0 w' b m (t ++ txL s) x L A := by
  obtain ⟨F, h1, h2, h3, h4, h5, h6⟩ := h
  have hl := stW_len (t := t) hm2
  have h := text_any w b F m (stW m t) s h1 hm (by omega) (by omega)
  rw [textW hs, layW] at h
  exact h.mono fun e w' hs => RecAt.step h1 h2 h3 h4 h5 h6 hs
end
set_option maxHeartbeats 800000 in
theorem writeCon_any (w0 w : World) (b : Nat) (m : Int) (t : List UInt8) (x : Option Addr) (L : List Plc) (A : List (Nat × Obj)) (h : RecAt w0 w b m t x L A) (hm : 0 ≤ m) (hm2 : m ≤ 60000) (says : Nat) (hsy : says = 0 ∨ says = 1) (o : Option ByteArray) (ho : (o.getD emB).size ≤ 65535) :
    Calls Tryz.prog 73 #[.pointer (some ⟨b, 0, none⟩), .int .i64 says, conV o] w fun e w' => e = .returned (.tuple #[]) ∧ RecAt w0 w' b m (t ++ conL says o) x L A := by
  have HN : Hid (∀ (n : Nat) W t A, n = 0 ∨ n = 1 → RecAt w0 W b m t x L A → Calls Tryz.prog 71 #[.pointer (some ⟨b, 0, none⟩), .int .i64 n] W fun e w' => e = .returned (.tuple #[]) ∧ RecAt w0 w' b m (t ++ rowL n) x L A) := Lib.hid fun n W t A hn hr => recNum hr hm hm2 n hn
  have HT : Hid (∀ (s : ByteArray) W t A, s.size ≤ 65535 → RecAt w0 W b m t x L A → Calls Tryz.prog 72 #[.pointer (some ⟨b, 0, none⟩), .string s] W fun e w' => e = .returned (.tuple #[]) ∧ RecAt w0 w' b m (t ++ txL s) x L A) := Lib.hid fun s W t A hs hr => recText hr hm hm2 s hs
  have HR := Lib.hid (fun o => h.alloc o)
  have HL : Hid (∀ W t q, RecAt w0 W b m t x L (q :: A) → RecAt w0 W b m t x L A) := Lib.hid fun W t q h => h.less fun _ hx => List.mem_cons_of_mem _ hx
  clear h hm hm2
  rcases hsy with rfl | rfl
  · cases o with
    | none =>
      have H0 : Hid (∀ a, Calls Tryz.prog 71 #[.pointer (some ⟨b, 0, none⟩), .int .i64 0] (w.alloc a) fun e w' => e = .returned (.tuple #[]) ∧ RecAt w0 w' b m (t ++ rowL 0) x L ((w.heap.size, a) :: A)) := Lib.hid fun a => HN.out 0 _ _ _ (Or.inl rfl) (HR.out a)
      clear HN HT ho
      unfold conV
      go_enter Tryz.func73, Tryz.ntmps73
      go_wp2_with (go_at_call 71; refine (H0.out _).mono ?_; rintro e w2 ⟨rfl, hr2⟩; have HR2 := Lib.hid hr2; clear hr2)
      (try simp only [Exit.inBlock, Exit.then])
      refine bodyPost_ret (results_none rfl _ _ _) rfl ?_
      exact ⟨rfl, HL.out _ _ _ HR2.out⟩
    | some v =>
      have hv : v.size ≤ 65535 := ho
      have H0 : Hid (∀ a, Calls Tryz.prog 71 #[.pointer (some ⟨b, 0, none⟩), .int .i64 1] (w.alloc a) fun e w' => e = .returned (.tuple #[]) ∧ RecAt w0 w' b m (t ++ rowL 1) x L ((w.heap.size, a) :: A)) := Lib.hid fun a => HN.out 1 _ _ _ (Or.inr rfl) (HR.out a)
      have H1 : Hid (∀ W A, RecAt w0 W b m (t ++ rowL 1) x L A → Calls Tryz.prog 72 #[.pointer (some ⟨b, 0, none⟩), .string v] W fun e w' => e = .returned (.tuple #[]) ∧ RecAt w0 w' b m (t ++ conL 0 (some v)) x L A) := Lib.hid fun W A hr => by
        have := HT.out v W _ _ hv hr
        rw [List.append_assoc] at this
        exact this
      clear HN HT ho hv
      unfold conV
      go_enter Tryz.func73, Tryz.ntmps73
      go_wp2_with (first
        | (go_at_call 71; refine (H0.out _).mono ?_; rintro e w2 ⟨rfl, hr2⟩; have HR2 := Lib.hid hr2; have c1 := cell_at hr2.block (k := 1) rfl; clear hr2)
        | (go_at_call 72; refine (H1.out _ _ HR2.out).mono ?_; rintro e w3 ⟨rfl, hr3⟩; have HR3 := Lib.hid hr3; clear hr3))
      go_end0
      exact ⟨rfl, HL.out _ _ _ HR3.out⟩
  · obtain ⟨v, hvv⟩ : ∃ v, o.getD emB = v := ⟨_, rfl⟩
    obtain ⟨B, hB⟩ : ∃ B, conV o = .agg #[.bool B, .string v] := by
      cases o with
      | none => exact ⟨false, by rw [← hvv]; rfl⟩
      | some x => exact ⟨true, by rw [← hvv]; rfl⟩
    have hv : v.size ≤ 65535 := by rw [← hvv]; exact ho
    have H1 : Hid (∀ a, Calls Tryz.prog 72 #[.pointer (some ⟨b, 0, none⟩), .string v] (w.alloc a) fun e w' => e = .returned (.tuple #[]) ∧ RecAt w0 w' b m (t ++ conL 1 o) x L ((w.heap.size, a) :: A)) := Lib.hid fun a => by
      have := HT.out v _ _ _ hv (HR.out a)
      have e : conL 1 o = txL v := by unfold conL; rw [if_neg (by decide), hvv]
      rw [e]; exact this
    rw [hB]
    clear HN HT ho hv hvv hB
    go_enter Tryz.func73, Tryz.ntmps73
    go_wp2_with (go_at_call 72; refine (H1.out _).mono ?_; rintro e w2 ⟨rfl, hr2⟩; have HR2 := Lib.hid hr2; clear hr2)
    go_end0
    exact ⟨rfl, HL.out _ _ _ HR2.out⟩
end Go.Proofs.YtlommddabccdeaaGreatDoor
