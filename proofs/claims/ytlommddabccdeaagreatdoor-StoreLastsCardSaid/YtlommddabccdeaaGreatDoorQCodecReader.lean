/-
  CodecReader.
-/
import Derived.Test.YtlommddabccdeaaGreatDoorQCodecTake
namespace Go.Proofs.YtlommddabccdeaaGreatDoor
open Go.ChangeShapes Go.WideShapes Go.ChangeAt Go.RowKit

def Rdr (w : World) (b g : Nat) (st : List UInt8 × Int) : Prop :=
 ∃ v, w.heap[b]? = some (.cells #[v, errW st.2] 157 (0, 0)) ∧ b ≠ g ∧ g < w.heap.size ∧ (st.2 = 0 → Lies w g v st.1) ∧ (st.2 ≠ 0 → v = .slice none 0 0 ∧ st.1 = [])
theorem Rdr.kept {w w' : World} {b g : Nat} {st : List UInt8 × Int} (h : Rdr w b g st) (hs : w.heap.size ≤ w'.heap.size) (hb : w'.heap[b]? = w.heap[b]?) (hg : w'.heap[g]? = w.heap[g]?) : Rdr w' b g st := by
 obtain ⟨v, h1, h2, h3, h4, h5⟩ := h
 exact ⟨v, by rw [hb]; exact h1, h2, by omega, fun h => (h4 h).kept hg, h5⟩
theorem Rdr.lt {w : World} {b g : Nat} {st : List UInt8 × Int} (h : Rdr w b g st) : b < w.heap.size ∧ g < w.heap.size := by
 obtain ⟨v, h1, h2, h3, h4, h5⟩ := h
 exact ⟨lt_of_heap h1, h3⟩
theorem Rdr.below {w w' : World} {b g : Nat} {st : List UInt8 × Int} (h : Rdr w b g st) (hb : Below w.heap.size w w') : Rdr w' b g st :=
 h.kept hb.size (hb.block b h.lt.1) (hb.block g h.lt.2)

def numR (st : List UInt8 × Int) : Nat × List UInt8 × Int := if st.2 ≠ 0 then (0, st.1, st.2) else takeN st.1
def textR (st : List UInt8 × Int) (most : Int) : List UInt8 × List UInt8 × Int := if st.2 ≠ 0 then ([], st.1, st.2) else takeT st.1 most
def doneR (st : List UInt8 × Int) : Int := if st.2 = 0 ∧ 0 < st.1.length then 33 else st.2

set_option maxHeartbeats 800000 in
theorem newReader_any (s : ByteArray) (w : World) :
  Calls Tryz.prog 86 #[.string s] w fun e w' => ∃ b g, e = .returned (.pointer (some ⟨b, 0, none⟩)) ∧ Rdr w' b g (s.data.toList, 0) ∧ Below w.heap.size w w' ∧ w.heap.size ≤ b ∧ w.heap.size ≤ g := by
 obtain ⟨cap, W1, hrun, hrow, hb, hlt, hcap⟩ := toBytes (P := Tryz.prog) 9 63 5 w s Tryz.underlying9 Tryz.underlying63 Tryz.underlying5
 have HR := Lib.hid hrow
 clear hrow
 go_enter Tryz.func86, Tryz.ntmps86
 go_wp2
 go_ret
 refine ⟨W1.heap.size, w.heap.size, rfl, ⟨_, heap_alloc_new _ _, by omega, by simp; omega, fun _ => ⟨0, cap, by simp, by simpa using hcap, fun j hj => ?_⟩, fun h => absurd rfl h⟩, hb.alloc (by omega) _, by omega, by omega⟩
 rw [World.cell?_alloc_lt _ _ _ (by simpa using hlt), Nat.zero_add]
 exact (HR.out j hj).1

theorem rdr_set {w w1 : World} {b g : Nat} {v v' ev : Value} {st : List UInt8 × Int} (hb : w.heap[b]? = some (.cells #[v, ev] 157 (0, 0))) (hne : b ≠ g) (hg : g < w.heap.size) (hbe : Below w.heap.size w w1)
  (h0 : st.2 = 0 → Lies w g v' st.1) (h1 : st.2 ≠ 0 → v' = .slice none 0 0 ∧ st.1 = []) : Rdr ((w1.setCell ⟨b, 0, none⟩ v').setCell ⟨b, 1, none⟩ (errW st.2)) b g st ∧ Upd [b] w ((w1.setCell ⟨b, 0, none⟩ v').setCell ⟨b, 1, none⟩ (errW st.2)) := by
 have hb1 : w1.heap[b]? = some (.cells #[v, ev] 157 (0, 0)) := (hbe.block b (lt_of_heap hb)).trans hb
 have hb2 : (w1.setCell ⟨b, 0, none⟩ v').heap[b]? = some (.cells #[v', ev] 157 (0, 0)) := by rw [heap_set_at hb1]; rfl
 refine ⟨⟨v', by rw [heap_set_at hb2]; rfl, hne, ?_, fun h => (h0 h).kept ?_, h1⟩, ?_⟩
 ·have := hbe.size
  simp [World.setCell]; omega
 ·rw [Below.heap_setCell _ _ _ _ (Ne.symm hne), Below.heap_setCell _ _ _ _ (Ne.symm hne)]
  exact hbe.block g hg
 ·exact ((Upd.of_below hbe).setCell (Or.inl (by simp)) _).setCell (Or.inl (by simp)) _

set_option maxHeartbeats 800000 in
theorem rnum_any (w : World) (b g : Nat) (st : List UInt8 × Int) (h : Rdr w b g st) (hl : st.1.length ≤ 70368744177664) :
  Calls Tryz.prog 87 #[.pointer (some ⟨b, 0, none⟩)] w fun e w' => e = .returned (.int .i64 (numR st).1) ∧ Rdr w' b g (numR st).2 ∧ Upd [b] w w' := by
 have HW := Lib.hid h
 obtain ⟨v, h1, h2, h3, h4, h5⟩ := h
 obtain ⟨l, er⟩ := st
 simp only at h1 h4 h5 hl
 by_cases he : er = 0
 ·subst he
  have hn : numR (l, 0) = takeN l := rfl
  rw [hn]
  rw [errW_nil] at h1
  have HN := Lib.hid (takeNumber_any w g v l (h4 rfl) hl h3)
  have c0 : w.cell? ⟨b, 0, none⟩ = some v := cell_at h1 (k := 0) rfl
  have c1 : w.cell? ⟨b, 1, none⟩ = some .nilIface := cell_at h1 (k := 1) rfl
  have hs : ∃ a n c, v = .slice a n c := by obtain ⟨off, cap, rfl, _⟩ := h4 rfl; exact ⟨_, _, _, rfl⟩
  have herr := takeN_err l
  unfold TakeN at HN
  generalize takeN l = p at HN herr
  obtain ⟨n, r, er⟩ := p
  simp only at HN herr ⊢
  have H1 := Lib.hid h1
  have HS := Lib.hid hs
  have hbl := lt_of_heap h1
  by_cases he2 : er = 0
  ·subst he2
   simp only [errW_nil, true_implies] at HN
   clear h1 h4 h5 hs herr HW hn
   go_enter Tryz.func87, Tryz.ntmps87
   go_wp2_with (go_at_call 115; refine HN.out.mono ?_; rintro e w1 ⟨v1, rfl, hb, hL, _⟩; have c0' := (hb.cell (p := ⟨b, 0, none⟩) hbl).trans c0; have c1' := (hb.cell (p := ⟨b, 1, none⟩) hbl).trans c1; have f0 := (hb.frozen (p := ⟨b, 0, none⟩) hbl).trans (free_at H1.out); have f1 := (hb.frozen (p := ⟨b, 1, none⟩) hbl).trans (free_at H1.out); have HL := Lib.hid hL; obtain ⟨off, cap, rfl, _⟩ := hL)
   go_ret
   exact ⟨rfl, rdr_set (st := (r, 0)) H1.out h2 h3 hb (fun _ => HL.out) (fun h => absurd rfl h)⟩
  ·have H2 := Lib.hid he2
   rw [errW_some he2] at HN
   unfold errV at HN
   obtain ⟨_, rfl, rfl⟩ : (er = 30 ∨ er = 32) ∧ n = 0 ∧ r = [] := by
    rcases herr with h | h
    ·exact absurd h he2
    ·exact h
   clear h1 h4 h5 hs herr HW hn he2
   go_enter Tryz.func87, Tryz.ntmps87
   go_wp2_with (go_at_call 115; refine HN.out.mono ?_; rintro e w1 ⟨v1, rfl, hb, _, hL⟩; have hv := hL H2.out; subst hv; have c0' := (hb.cell (p := ⟨b, 0, none⟩) hbl).trans c0; have c1' := (hb.cell (p := ⟨b, 1, none⟩) hbl).trans c1; have f0 := (hb.frozen (p := ⟨b, 0, none⟩) hbl).trans (free_at H1.out); have f1 := (hb.frozen (p := ⟨b, 1, none⟩) hbl).trans (free_at H1.out))
   go_ret
   have hq := rdr_set (st := ([], er)) (v' := .slice none 0 0) H1.out h2 h3 hb (fun h => absurd h H2.out) (fun _ => ⟨rfl, rfl⟩)
   rw [errW_some H2.out] at hq
   exact ⟨rfl, hq⟩
 ·have hn : numR (l, er) = (0, l, er) := if_pos he
  rw [hn]
  rw [errW_some he] at h1
  unfold errV at h1
  have c1 := cell_at h1 (k := 1) rfl
  clear h1 h4 h5 hn
  go_enter Tryz.func87, Tryz.ntmps87
  go_wp2
  go_ret
  exact ⟨rfl, HW.out, Upd.refl _ _⟩

set_option maxHeartbeats 800000 in
theorem rtext_any (w : World) (b g : Nat) (st : List UInt8 × Int) (most : Int) (h : Rdr w b g st) (hl : st.1.length ≤ 70368744177664) :
  Calls Tryz.prog 90 #[.pointer (some ⟨b, 0, none⟩), .int .i64 most] w fun e w' => e = .returned (str (textR st most).1) ∧ Rdr w' b g (textR st most).2 ∧ Upd [b] w w' := by
 have HW := Lib.hid h
 obtain ⟨v, h1, h2, h3, h4, h5⟩ := h
 obtain ⟨l, er⟩ := st
 simp only at h1 h4 h5 hl
 by_cases he : er = 0
 ·subst he
  have hn : textR (l, 0) most = takeT l most := rfl
  rw [hn]
  rw [errW_nil] at h1
  have HN := Lib.hid (takeText_any w g v l most (h4 rfl) hl h3)
  have c0 : w.cell? ⟨b, 0, none⟩ = some v := cell_at h1 (k := 0) rfl
  have c1 : w.cell? ⟨b, 1, none⟩ = some .nilIface := cell_at h1 (k := 1) rfl
  have hs : ∃ a n c, v = .slice a n c := by obtain ⟨off, cap, rfl, _⟩ := h4 rfl; exact ⟨_, _, _, rfl⟩
  have herr := takeT_err l most
  unfold TakeT at HN
  generalize takeT l most = p at HN herr
  obtain ⟨n, r, er⟩ := p
  simp only at HN herr ⊢
  have H1 := Lib.hid h1
  have HS := Lib.hid hs
  have hbl := lt_of_heap h1
  by_cases he2 : er = 0
  ·subst he2
   simp only [errW_nil, true_implies] at HN
   clear h1 h4 h5 hs herr HW hn
   go_enter Tryz.func90, Tryz.ntmps90
   go_wp2_with (go_at_call 116; refine HN.out.mono ?_; rintro e w1 ⟨v1, rfl, hb, hL, _⟩; have c0' := (hb.cell (p := ⟨b, 0, none⟩) hbl).trans c0; have c1' := (hb.cell (p := ⟨b, 1, none⟩) hbl).trans c1; have f0 := (hb.frozen (p := ⟨b, 0, none⟩) hbl).trans (free_at H1.out); have f1 := (hb.frozen (p := ⟨b, 1, none⟩) hbl).trans (free_at H1.out); have HL := Lib.hid hL; obtain ⟨off, cap, rfl, _⟩ := hL)
   go_ret
   exact ⟨rfl, rdr_set (st := (r, 0)) H1.out h2 h3 hb (fun _ => HL.out) (fun h => absurd rfl h)⟩
  ·have H2 := Lib.hid he2
   rw [errW_some he2] at HN
   unfold errV at HN
   obtain ⟨_, rfl, rfl⟩ : (er = 30 ∨ er = 31 ∨ er = 32) ∧ n = [] ∧ r = [] := by
    rcases herr with h | h
    ·exact absurd h he2
    ·exact h
   clear h1 h4 h5 hs herr HW hn he2
   go_enter Tryz.func90, Tryz.ntmps90
   go_wp2_with (go_at_call 116; refine HN.out.mono ?_; rintro e w1 ⟨v1, rfl, hb, _, hL⟩; have hv := hL H2.out; subst hv; have c0' := (hb.cell (p := ⟨b, 0, none⟩) hbl).trans c0; have c1' := (hb.cell (p := ⟨b, 1, none⟩) hbl).trans c1; have f0 := (hb.frozen (p := ⟨b, 0, none⟩) hbl).trans (free_at H1.out); have f1 := (hb.frozen (p := ⟨b, 1, none⟩) hbl).trans (free_at H1.out))
   go_ret
   have hq := rdr_set (st := ([], er)) (v' := .slice none 0 0) H1.out h2 h3 hb (fun h => absurd h H2.out) (fun _ => ⟨rfl, rfl⟩)
   rw [errW_some H2.out] at hq
   exact ⟨rfl, hq⟩
 ·have hn : textR (l, er) most = ([], l, er) := if_pos he
  rw [hn]
  rw [errW_some he] at h1
  unfold errV at h1
  have c1 := cell_at h1 (k := 1) rfl
  clear h1 h4 h5 hn
  go_enter Tryz.func90, Tryz.ntmps90
  go_wp2
  go_ret
  exact ⟨rfl, HW.out, Upd.refl _ _⟩

theorem left_any (w : World) (b g : Nat) (st : List UInt8 × Int) (h : Rdr w b g st) :
  Calls Tryz.prog 89 #[.pointer (some ⟨b, 0, none⟩)] w fun e w' => e = .returned (.int .i64 st.1.length) ∧ w = w' := by
 obtain ⟨v, h1, h2, h3, h4, h5⟩ := h
 have hs : ∃ a c, v = .slice a st.1.length c := by
  by_cases he : st.2 = 0
  ·obtain ⟨off, cap, rfl, _⟩ := h4 he; exact ⟨_, _, rfl⟩
  ·obtain ⟨rfl, h6⟩ := h5 he; exact ⟨none, 0, by rw [h6]; rfl⟩
 obtain ⟨a, c, rfl⟩ := hs
 have c0 := cell_at h1 (k := 0) rfl
 clear h1 h4 h5
 go_enter Tryz.func89, Tryz.ntmps89
 go_wp2
 go_ret
 exact ⟨rfl, rfl⟩

theorem rdone_any (w : World) (b g : Nat) (st : List UInt8 × Int) (h : Rdr w b g st) (hh : Hand w) :
  Calls Tryz.prog 92 #[.pointer (some ⟨b, 0, none⟩)] w fun e w' => e = .returned (.int .i64 (doneR st)) ∧ Below w.heap.size w w' := by
 obtain ⟨v, h1, h2, h3, h4, h5⟩ := h
 obtain ⟨l, er⟩ := st
 simp only at h1 h4 h5
 by_cases he : er = 0
 ·subst he
  rw [errW_nil] at h1
  obtain ⟨off, cap, rfl, _⟩ := h4 rfl
  have c0 := cell_at h1 (k := 0) rfl
  have c1 := cell_at h1 (k := 1) rfl
  clear h1 h4 h5
  by_cases hl : 0 < l.length
  ·have hd : doneR (l, 0) = 33 := if_pos ⟨rfl, hl⟩
   rw [hd]
   have q : (0 : Int) < (l.length : Int) := by omega
   clear hd
   go_enter Tryz.func92, Tryz.ntmps92
   go_wp2
   go_ret
   exact ⟨rfl, Below.refl _ _⟩
  ·have hd : doneR (l, 0) = 0 := if_neg (by simp only; omega)
   rw [hd]
   have q : decide (0 < l.length) = false := decide_eq_false hl
   clear hd
   go_enter Tryz.func92, Tryz.ntmps92
   go_wp2_with (go_at_call 107; refine (errnoOf_nil _).mono ?_; rintro e w1 ⟨rfl, hb⟩)
   go_ret
   exact ⟨rfl, hb⟩
 ·have hd : doneR (l, er) = er := if_neg (by simp [he])
  rw [hd]
  rw [errW_some he] at h1
  have c1 := cell_at h1 (k := 1) rfl
  have HN := Lib.hid (errnoOf_hit er w hh hh.pos)
  unfold errV at c1 HN
  clear h1 h4 h5 hd hh
  go_enter Tryz.func92, Tryz.ntmps92
  go_wp2_with (go_at_call 107; refine HN.out.mono ?_; rintro e w1 ⟨rfl, hb⟩)
  go_ret
  exact ⟨rfl, hb⟩
end Go.Proofs.YtlommddabccdeaaGreatDoor
