/-
  A Writer whose other blocks lie behind all else; the walk of the laws' 'awake'.
-/
import Derived.Test.YtcfnkphdmkepaaaDoorCodecHelp
namespace Go.Proofs.YtcfnkphdmkepaaaDoor
open Go.ChangeShapes Go.WideShapes Go.ChangeAt Go.RowKit

/-- Below N all but block b is as it was. -/
structure Bar (N b : Nat) (w w' : World) : Prop where
  os : w'.os = w.os
  tape : w'.tape = w.tape
  output : w'.output = w.output
  size : w.heap.size ≤ w'.heap.size
  block : ∀ k, k < N → k ≠ b → w'.heap[k]? = w.heap[k]?
theorem Bar.refl (N b : Nat) (w : World) : Bar N b w w := ⟨rfl, rfl, rfl, Nat.le_refl _, fun _ _ _ => rfl⟩
theorem Bar.trans {N b : Nat} {x y z : World} (h : Bar N b x y) (k : Bar N b y z) : Bar N b x z :=
  ⟨k.os.trans h.os, k.tape.trans h.tape, k.output.trans h.output, Nat.le_trans h.size k.size, fun i hi hb => (k.block i hi hb).trans (h.block i hi hb)⟩
theorem Bar.of_below {N b : Nat} {w w' : World} (h : Below w.heap.size w w') (hN : N ≤ w.heap.size) : Bar N b w w' := ⟨h.os, h.tape, h.output, h.size, fun k hk _ => h.block k (by omega)⟩
theorem Bar.below {N b B : Nat} {w w' : World} (h : Bar N b w w') (hb : B ≤ b) (hN : B ≤ N) : Below B w w' := ⟨h.os, h.tape, h.output, h.size, fun k hk => h.block k (by omega) (by omega)⟩
theorem Bar.of_upd {N b : Nat} {F : List Nat} {w w' : World} (h : Upd F w w') (hN : N ≤ w.heap.size) (hF : ∀ k ∈ F, k = b ∨ N ≤ k) : Bar N b w w' :=
  ⟨h.os, h.tape, h.output, h.size, fun k hk hb => h.block k (by omega) (fun hx => by rcases hF k hx with h1 | h1 <;> omega)⟩

/-- A Writer at b; its other blocks are N or above. -/
def Wob (w : World) (N b : Nat) (most : Int) (st : List UInt8 × Int) : Prop := ∃ F, Wtr w b F most st ∧ (∀ k ∈ F, k = b ∨ N ≤ k) ∧ N ≤ w.heap.size
theorem Wob.step {w : World} {N b : Nat} {most : Int} {F : List Nat} {st : List UInt8 × Int} {e : Ending} {w' : World} (hs : WStep w b F most st e w') (hF : ∀ k ∈ F, k = b ∨ N ≤ k) (hN : N ≤ w.heap.size) :
    e = .returned (.tuple #[]) ∧ Wob w' N b most st ∧ Bar N b w w' := by
  obtain ⟨rfl, F', h1, h2, h3⟩ := hs
  refine ⟨rfl, ⟨F', h1, fun k hk => ?_, Nat.le_trans hN h2.size⟩, Bar.of_upd h2 hN hF⟩
  rcases h3 k hk with h4 | h4
  · exact hF k h4
  · exact Or.inr (by omega)
theorem wob_num {w : World} {N b : Nat} {most : Int} {st : List UInt8 × Int} (n : Int) (h : Wob w N b most st) (hm : 0 ≤ most) (hm2 : most ≤ 9223372036854775807) (hl : st.1.length + 9 ≤ 70368744177664) (hn : n < 9223372036854775808) :
    Calls Tryd.prog 16 #[.pointer (some ⟨b, 0, none⟩), .int .i64 n] w fun e w' => e = .returned (.tuple #[]) ∧ Wob w' N b most (layL most st (numRow n)) ∧ Bar N b w w' := by
  obtain ⟨F, h1, h2, h3⟩ := h
  exact (num_any w b F most st n h1 hm hm2 hl hn).mono fun e w' hs => Wob.step hs h2 h3
theorem wob_text {w : World} {N b : Nat} {most : Int} {st : List UInt8 × Int} (s : ByteArray) (h : Wob w N b most st) (hm : 0 ≤ most) (hm2 : most ≤ 9223372036854775807) (hl : st.1.length + 65538 ≤ 70368744177664) :
    Calls Tryd.prog 14 #[.pointer (some ⟨b, 0, none⟩), .string s] w fun e w' => e = .returned (.tuple #[]) ∧ Wob w' N b most (layL most st (textRow s.data.toList)) ∧ Bar N b w w' := by
  obtain ⟨F, h1, h2, h3⟩ := h
  exact (text_any w b F most st s h1 hm hm2 hl).mono fun e w' hs => Wob.step hs h2 h3
theorem Wob.below {w w' : World} {N b : Nat} {most : Int} {st : List UInt8 × Int} (h : Wob w N b most st) (hb : Below w.heap.size w w') : Wob w' N b most st := by
  obtain ⟨F, h1, h2, h3⟩ := h
  exact ⟨F, h1.kept (fun k hk => hb.block k (h1.lt k hk)), h2, Nat.le_trans h3 hb.size⟩
theorem wob_done {w : World} {N b : Nat} {most : Int} {st : List UInt8 × Int} (h : Wob w N b most st) (hh : Hand w) :
    Calls Tryd.prog 18 #[.pointer (some ⟨b, 0, none⟩)] w fun e w' => e = .returned (.tuple #[str st.1, .int .i64 st.2]) ∧ Below w.heap.size w w' ∧ Wob w' N b most st := by
  have h0 := h
  obtain ⟨F, h1, h2, h3⟩ := h
  exact (done_any w b F most st h1 hh).mono fun e w' ⟨he, hb⟩ => ⟨he, hb, h0.below hb⟩
/-- A new Writer, and any number above it. -/
theorem wob_new {w w' : World} {most : Int} (hb : Below (w.heap.size + 1) (w.alloc (.cells #[.slice none 0 0, .int .i64 most, .nilIface] 61)) w') {N : Nat} (hN : N ≤ w'.heap.size) : Wob w' N w.heap.size most ([], 0) :=
  ⟨[w.heap.size], (wtr_new w most).kept (fun k hk => hb.block k (by simp at hk; omega)), fun k hk => Or.inl (by simpa using hk), hN⟩

theorem row300 : numRow 300 = ([172, 2], 0) := by
  have : rowL 300 = [172, 2] := by rw [rowL_great (by decide), rowL_small (by decide)]; decide
  rw [numRow, if_neg (by decide)]
  exact congrArg (·, (0 : Int)) this
theorem row0 : numRow 0 = ([0], 0) := by
  have : rowL 0 = [0] := by rw [rowL_small (by decide)]; decide
  rw [numRow, if_neg (by decide)]
  exact congrArg (·, (0 : Int)) this
theorem rowab : textRow [97, 98] = ([2, 97, 98], 0) := by
  have : rowL 2 = [2] := by rw [rowL_small (by decide)]; decide
  rw [textRow, if_neg (by decide)]
  show (rowL 2 ++ [97, 98], (0 : Int)) = _
  rw [this]; rfl
theorem lay20 : layL 20 (layL 20 (layL 20 ([], 0) ([172, 2], 0)) ([2, 97, 98], 0)) ([0], 0) = ([172, 2, 2, 97, 98, 0], 0) := by decide
theorem lay3 : layL 3 (layL 3 ([], 0) ([172, 2], 0)) ([172, 2], 0) = ([], 31) := by decide
theorem take300 : numR ([172, 2, 3, 97], 0) = (300, [3, 97], 0) := by
  have : rowL 300 = [172, 2] := by rw [rowL_great (by decide), rowL_small (by decide)]; decide
  have h := takeN_row (n := 300) (by decide) [3, 97]
  rw [this] at h
  exact h
theorem take3 : textR ([3, 97], 0) 3 = ([], [], 32) := by
  have : rowL 3 = [3] := by rw [rowL_small (by decide)]; decide
  have h := takeN_row (n := 3) (by decide) [97]
  rw [this] at h
  show takeT [3, 97] 3 = _
  have h' : takeN [3, 97] = (3, [97], 0) := h
  rw [takeT, h']; decide

set_option maxRecDepth 100000 in
set_option maxHeartbeats 3200000 in
theorem awake_any (w : World) (hh : Hand w) :
    Calls Tryd.prog 7 #[] w fun e w' => e = .returned (.bool true) ∧ Below w.heap.size w w' := by
  have HH := Lib.hid hh
  have hpos := hh.pos
  clear hh
  go_enter Tryd.func7, Tryd.ntmps7
  go_wp2_with fail
  refine (newWriter_any 20 _).mono ?_
  rintro e w1 ⟨rfl, hw1⟩
  rw [show max (20 : Int) 0 = 20 by decide] at hw1
  have HW1 := Lib.hid hw1
  clear hw1
  go_wp2_with fail
  refine (newReader_any ⟨#[172, 2, 3, 97]⟩ _).mono ?_
  rintro e w2 ⟨rb, rg, rfl, hR, hb2, hr1, hr2⟩
  go_wp2_with fail
  refine (newWriter_any 3 _).mono ?_
  rintro e w3 ⟨rfl, hw3⟩
  rw [show max (3 : Int) 0 = 3 by decide] at hw3
  obtain ⟨N, hN⟩ : ∃ N, N = w3.heap.size := ⟨_, rfl⟩
  have hfacts : Wob w3 N w.heap.size 20 ([], 0) ∧ Rdr w3 rb rg ([172, 2, 3, 97], 0) ∧ Wtr w3 w2.heap.size [w2.heap.size] 3 ([], 0) ∧ Below w.heap.size w w3 ∧ w2.heap.size < N ∧ w.heap.size < w2.heap.size ∧ rb < w2.heap.size ∧ rg < w2.heap.size ∧ w.heap.size < rb ∧ w.heap.size < rg := by
    have e1 := HW1.out
    subst e1
    have hs2 := hb2.size
    simp at hs2 hr1 hr2
    have hlt := hR.lt
    have hs3 : w3.heap.size = w2.heap.size + 1 := by rw [hw3]; simp
    have hb23 : Below w2.heap.size w2 w3 := by rw [hw3]; exact (Below.refl _ _).alloc (Nat.le_refl _) _
    refine ⟨wob_new (w := w) ?_ (by omega), hR.below hb23, ?_, ?_, by omega, by omega, hlt.1, hlt.2, by omega, by omega⟩
    · exact (hb2.mono (by simp)).trans (hb23.mono (by omega))
    · rw [hw3]; exact wtr_new w2 3
    · exact (((Below.refl _ _).alloc (Nat.le_refl _) _).trans (hb2.mono (by simp))).trans (hb23.mono (by omega))
  obtain ⟨hW, hR3, hV, hB, hq1, hq2, hq3, hq4, hq5, hq6⟩ := hfacts
  have HV := Lib.hid hV
  have HR := Lib.hid hR3
  have HN := Lib.hid hN
  generalize hvb : w2.heap.size = vb at HV hq1 hq2 hq3 hq4
  have HVB := Lib.hid hvb
  clear hV hR3 hN hR hb2 hr1 hr2 hw3 HW1 hvb
  have hnb : w.heap.size ≤ N := by omega
  go_wp2_with fail
  refine (wob_num 300 hW (by decide) (by decide) (by simp) (by decide)).mono ?_
  rintro e w4 ⟨rfl, hW4, hb4⟩
  rw [row300] at hW4
  clear hW
  go_wp2_with fail
  refine (wob_text ⟨#[97, 98]⟩ hW4 (by decide) (by decide) (by decide)).mono ?_
  rintro e w5 ⟨rfl, hW5, hb5⟩
  simp only [rowab] at hW5
  replace hb5 := hb4.trans hb5
  clear hW4 hb4
  go_wp2_with fail
  refine (wob_num 0 hW5 (by decide) (by decide) (by decide) (by decide)).mono ?_
  rintro e w6 ⟨rfl, hW6, hb6⟩
  rw [row0] at hW6
  replace hb6 := hb5.trans hb6
  clear hW5 hb5
  have hh6 : Hand w6 := HH.out.below (hB.trans (hb6.below (Nat.le_refl _) hnb)) hpos
  have HH6 := Lib.hid hh6
  clear hh6
  go_wp2_with fail
  refine (wob_done hW6 HH6.out).mono ?_
  rintro e w7 ⟨rfl, hb7, _⟩
  rw [lay20]
  unfold str
  have hN6 : N ≤ w6.heap.size := by have := hb6.size; rw [HN.out]; omega
  have hbar7 := hb6.trans (Bar.of_below hb7 hN6)
  have hR7 : Rdr w7 rb rg ([172, 2, 3, 97], 0) := HR.out.kept hbar7.size (hbar7.block rb (by omega) (by omega)) (hbar7.block rg (by omega) (by omega))
  have hV7 : Wtr w7 vb [vb] 3 ([], 0) := HV.out.kept (fun k hk => hbar7.block k (by simp at hk; omega) (by simp at hk; omega))
  have hB7 : Below w.heap.size w w7 := hB.trans (hbar7.below (Nat.le_refl _) hnb)
  clear HR HV hW6 hb6 HH6 hb7 hB hbar7 HN HVB
  have HV := Lib.hid hV7
  clear hV7
  go_wp2_with fail
  refine (rnum_any _ _ _ _ hR7 (by decide)).mono ?_
  rintro e w8 ⟨rfl, hR8, hu8⟩
  rw [take300] at hR8 ⊢
  have hu8' := hu8
  clear hR7
  go_wp2_with fail
  refine (rtext_any _ _ _ _ 3 hR8 (by decide)).mono ?_
  rintro e w9 ⟨rfl, hR9, hu9⟩
  rw [take3] at hR9 ⊢
  unfold str
  replace hu9 := hu8.trans hu9 (fun x hx => Or.inl hx)
  clear hR8 hu8 hu8'
  go_wp2_with fail
  refine (left_any _ _ _ _ hR9).mono ?_
  rintro e w' ⟨rfl, rfl⟩
  have hB9 : Below w.heap.size w w9 := hB7.trans (hu9.below (fun x hx => by simp at hx; omega) hB7.size)
  have HH9 := Lib.hid (HH.out.below hB9 hpos)
  go_wp2_with fail
  refine (rdone_any _ _ _ _ hR9 HH9.out).mono ?_
  rintro e w10 ⟨rfl, hb10⟩
  rw [show doneR ([], 32) = 32 from rfl]
  have hV10 : Wtr w10 vb [vb] 3 ([], 0) := (HV.out.kept (fun k hk => hu9.block k (HV.out.lt k hk) (by simp at hk ⊢; omega))).kept (fun k hk => hb10.block k (Nat.lt_of_lt_of_le (HV.out.lt k hk) hu9.size))
  have hB10 : Below w.heap.size w w10 := hB9.trans (hb10.mono hB9.size)
  have hW10 : Wob w10 w10.heap.size vb 3 ([], 0) := ⟨[vb], hV10, fun k hk => Or.inl (by simpa using hk), Nat.le_refl _⟩
  clear hV10 HV hR9 HH9 hu9 hB9 hb10 hB7
  have hs10 := hB10.size
  go_wp2_with fail
  refine (wob_num 300 hW10 (by decide) (by decide) (by simp) (by decide)).mono ?_
  rintro e w11 ⟨rfl, hW11, hb11⟩
  rw [row300] at hW11
  clear hW10
  go_wp2_with fail
  refine (wob_num 300 hW11 (by decide) (by decide) (by decide) (by decide)).mono ?_
  rintro e w12 ⟨rfl, hW12, hb12⟩
  rw [row300, lay3] at hW12
  replace hb12 := hb11.trans hb12
  clear hW11 hb11
  have hB12 : Below w.heap.size w w12 := hB10.trans (hb12.below (by omega) (by omega))
  have HH12 := Lib.hid (HH.out.below hB12 hpos)
  go_wp2_with fail
  refine (wob_done hW12 HH12.out).mono ?_
  rintro e w13 ⟨rfl, hb13, _⟩
  unfold str
  have hB13 : Below w.heap.size w w13 := hB12.trans (hb13.mono hB12.size)
  clear hW12 HH12 hb12 hB12 hb13 hB10 hs10
  go_wp2
  go_ret
  exact ⟨rfl, hB13⟩
end Go.Proofs.YtcfnkphdmkepaaaDoor
