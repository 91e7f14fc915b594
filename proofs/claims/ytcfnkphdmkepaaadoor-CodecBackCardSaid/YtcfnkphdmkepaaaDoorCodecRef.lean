/-
  The walks of the document's own Writer, by what it holds.
-/
import Derived.Test.YtcfnkphdmkepaaaDoorCodecWriter
namespace Go.Proofs.YtcfnkphdmkepaaaDoor
open Go.ChangeShapes Go.WideShapes Go.ChangeAt Go.RowKit

/-- The document's own Writer lies at block b; the blocks F are its own. (Behind an error its bytes stay where they are.) -/
def Xtr (w : World) (b : Nat) (F : List Nat) (room : Int) (st : List UInt8 × Int) : Prop :=
  ∃ v l, w.heap[b]? = some (.cells #[.int .i64 room, v, .int .i64 st.2] 63 (0, 0)) ∧ Held w v l ∧ v.ownBlock ≠ some b ∧ F = b :: v.ownBlock.toList ∧ (st.2 = 0 → l = st.1) ∧ (st.2 ≠ 0 → st.1 = [])
theorem Xtr.kept {w w' : World} {b : Nat} {F : List Nat} {room : Int} {st : List UInt8 × Int} (h : Xtr w b F room st) (hk : ∀ k ∈ F, w'.heap[k]? = w.heap[k]?) : Xtr w' b F room st := by
  obtain ⟨v, l, h1, h2, h3, rfl, h5⟩ := h
  exact ⟨v, l, by rw [hk b (by simp)]; exact h1, h2.kept (fun g hg => hk g (by simp [hg])), h3, rfl, h5⟩
theorem Xtr.lt {w : World} {b : Nat} {F : List Nat} {room : Int} {st : List UInt8 × Int} (h : Xtr w b F room st) : ∀ k ∈ F, k < w.heap.size := by
  obtain ⟨v, l, h1, h2, h3, rfl, h5⟩ := h
  intro k hk
  simp at hk
  rcases hk with rfl | hk
  · exact lt_of_heap h1
  · exact h2.lt hk
def XStep (w : World) (b : Nat) (F : List Nat) (room : Int) (st : List UInt8 × Int) (e : Ending) (w' : World) : Prop :=
  e = .returned (.tuple #[]) ∧ ∃ F', Xtr w' b F' room st ∧ Upd F w w' ∧ ∀ k ∈ F', k ∈ F ∨ w.heap.size ≤ k
theorem XStep.after {w w1 : World} {b : Nat} {F : List Nat} {room : Int} {st : List UInt8 × Int} {e : Ending} {w' : World} (h : XStep w1 b F room st e w') (hb : Below w.heap.size w w1) : XStep w b F room st e w' := by
  obtain ⟨rfl, F', h1, h2, h3⟩ := h
  refine ⟨rfl, F', h1, (Upd.of_below hb).trans h2 (fun x hx => Or.inl hx), fun k hk => ?_⟩
  rcases h3 k hk with h4 | h4
  · exact Or.inl h4
  · exact Or.inr (Nat.le_trans hb.size h4)

theorem refNewWriter_any (most : Int) (w : World) :
    Calls Tryd.prog 9 #[.int .i64 most] w fun e w' => e = .returned (.pointer (some ⟨w.heap.size, 0, none⟩)) ∧ w' = w.alloc (.cells #[.int .i64 (max most 0), .slice none 0 0, .int .i64 0] 63) := by
  by_cases h : most < 0
  · have H := Lib.hid (show max most 0 = 0 by omega)
    go_enter Tryd.func9, Tryd.ntmps9
    go_wp2
    go_ret
    exact ⟨rfl, by rw [H.out]⟩
  · have H := Lib.hid (show max most 0 = most by omega)
    go_enter Tryd.func9, Tryd.ntmps9
    go_wp2
    go_ret
    exact ⟨rfl, by rw [H.out]⟩
theorem xtr_new (w : World) (most : Int) : Xtr (w.alloc (.cells #[.int .i64 most, .slice none 0 0, .int .i64 0] 63)) w.heap.size [w.heap.size] most ([], 0) :=
  ⟨.slice none 0 0, [], heap_alloc_new _ _, World.ownsRow_nil _ _ _ _, by simp [Value.ownBlock], rfl, fun _ => rfl, fun h => absurd rfl h⟩

/-- Its error is set. -/
theorem xtr_err {w : World} {b n : Nat} {F : List Nat} {room : Int} {st : List UInt8 × Int} {e : Int} (h : Xtr w b F room st) (he : e ≠ 0) :
    ∃ F', Xtr ((w.drewN n).setCell ⟨b, 2, none⟩ (.int .i64 e)) b F' room ([], e) ∧ Upd F w ((w.drewN n).setCell ⟨b, 2, none⟩ (.int .i64 e)) ∧ ∀ k ∈ F', k ∈ F ∨ w.heap.size ≤ k := by
  obtain ⟨v, l, h1, h2, h3, rfl, h5⟩ := h
  refine ⟨_, ⟨v, l, ?_, h2.kept (fun g hg => (Below.heap_setCell (w.drewN n) ⟨b, 2, none⟩ _ g (fun e => h3 (by rw [hg, e])))), h3, rfl, fun h => absurd h he, fun _ => rfl⟩, ((Upd.refl _ w).drewN n).setCell (Or.inl (by simp)) _, fun k hk => Or.inl hk⟩
  rw [heap_set_at (w := w.drewN n) h1]; rfl

theorem xtr_end {w w2 : World} {b n : Nat} {v v2 : Value} {room : Int} {l : List UInt8} (hb : w.heap[b]? = some (.cells #[.int .i64 room, v, .int .i64 0] 63 (0, 0))) (hne : v.ownBlock ≠ some b)
    (hb2 : w2.heap[b]? = some (.cells #[.int .i64 room, v, .int .i64 0] 63 (0, 0))) (hv2 : Held w2 v2 l) (hg : (w.drewN n).grownBy w2 v.ownBlock) (hl : ∀ g, v2.ownBlock = some g → v.ownBlock = some g ∨ (w.drewN n).heap.size ≤ g) :
    ∃ F', Xtr (w2.setCell ⟨b, 1, none⟩ v2) b F' room (l, 0) ∧ Upd (b :: v.ownBlock.toList) w (w2.setCell ⟨b, 1, none⟩ v2) ∧ ∀ k ∈ F', k ∈ b :: v.ownBlock.toList ∨ w.heap.size ≤ k := by
  have hlt := lt_of_heap hb
  have hn2 : v2.ownBlock ≠ some b := fun e => by
    rcases hl b e with h1 | h1
    · exact hne h1
    · have : w.heap.size ≤ b := h1
      omega
  refine ⟨b :: v2.ownBlock.toList, ⟨v2, l, ?_, hv2.kept (fun g hg => Below.heap_setCell _ _ _ _ (fun e => hn2 (by rw [hg, e]))), hn2, rfl, fun _ => rfl, fun h => absurd rfl h⟩, ?_, ?_⟩
  · rw [heap_set_at hb2]; rfl
  · exact (((Upd.refl _ w).drewN n).grown hg (fun k hk => Or.inl (by simp [hk]))).setCell (Or.inl (by simp)) _
  · intro k hk
    simp at hk ⊢
    rcases hk with rfl | hk
    · exact Or.inl (Or.inl rfl)
    · rcases hl k hk with h1 | h1
      · exact Or.inl (Or.inr h1)
      · exact Or.inr h1

theorem size_mk (l : List UInt8) : (ByteArray.mk l.toArray).size = l.length := rfl
theorem data_app (l : List UInt8) (s : ByteArray) : (ByteArray.mk l.toArray ++ s).data.toList = l ++ s.data.toList := by simp

set_option maxHeartbeats 800000 in
theorem reflay_any (w : World) (b : Nat) (F : List Nat) (room : Int) (st : List UInt8 × Int) (s : ByteArray) (h : Xtr w b F room st) (hm : 0 ≤ room) (hm2 : room ≤ 9223372036854775807) (hl : st.1.length + s.size ≤ 70368744177664) :
    Calls Tryd.prog 34 #[.pointer (some ⟨b, 0, none⟩), .string s] w (XStep w b F room (layL room st (s.data.toList, 0))) := by
  have HX := Lib.hid h
  obtain ⟨v, l, h1, h2, h3, rfl, h5, h6⟩ := h
  obtain ⟨l0, er⟩ := st
  simp only at h1 h5 h6 hl
  by_cases he : er = 0
  · subst he
    have := h5 rfl
    subst this
    have c0 := cell_at h1 (k := 0) rfl
    have c1 := cell_at h1 (k := 1) rfl
    have c2 := cell_at h1 (k := 2) rfl
    have f1 := free_at h1 (k := 1)
    have f2 := free_at h1 (k := 2)
    have H1 := Lib.hid h1
    have H2 := Lib.hid h2
    have H3 := Lib.hid h3
    obtain ⟨a2, cc, rfl⟩ := h2.shape
    have hw : IntKind.i64.wrap (room - (l.length : Int)) = room - l.length := IntWalk.i64_in _ (by omega)
    clear h1 h2 h3 h5 h6
    by_cases hlong : room - (l.length : Int) < (s.size : Int)
    · have e1 : layL room (l, 0) (s.data.toList, 0) = ([], 31) := by rw [layL, if_neg (by simp), if_neg (by simp), if_pos (by simpa using hlong)]
      rw [e1]
      have hd : decide (room - (l.length : Int) < (s.size : Int)) = true := decide_eq_true hlong
      clear hlong e1
      go_enter Tryd.func34, Tryd.ntmps34
      go_wp2
      go_quiet (fail)
      go_wp2
      refine bodyPost_ret (results_none rfl _ _ _) rfl ?_
      exact ⟨rfl, xtr_err HX.out (by decide)⟩
    · have e1 : layL room (l, 0) (s.data.toList, 0) = (l ++ s.data.toList, 0) := by rw [layL, if_neg (by simp), if_neg (by simp), if_neg (by simpa using hlong)]
      rw [e1]
      have hd : decide (room - (l.length : Int) < (s.size : Int)) = false := decide_eq_false hlong
      clear hlong e1
      go_enter Tryd.func34, Tryd.ntmps34
      go_wp2
      go_quiet (fail)
      clear hw hd
      go_wp2_with (at_builtin; refine appendHS rfl _ _ rfl (H2.out.drewN _) rfl s rfl hl ?_; intro v2 w2 hv2 hg2 hl2; have hb2 := grown_at (w := w.drewN _) H1.out hg2 H3.out; have c0' := cell_at hb2 (k := 1) rfl; have f0' := free_at hb2 (k := 1); have HB2 := Lib.hid hb2; clear hb2; obtain ⟨a3, n3, c3, rfl⟩ := hv2.shape')
      go_end0
      exact ⟨rfl, xtr_end H1.out H3.out HB2.out hv2 hg2 hl2⟩
  · have e1 : layL room (l0, er) (s.data.toList, 0) = (l0, er) := by rw [layL, if_pos he]
    rw [e1]
    have c2 := cell_at h1 (k := 2) rfl
    have hd : (er != 0) = true := by simpa using he
    clear h1 h2 h3 h5 h6 e1 he
    go_enter Tryd.func34, Tryd.ntmps34
    go_wp2
    refine bodyPost_ret (results_none rfl _ _ _) rfl ?_
    exact ⟨rfl, _, HX.out, Upd.refl _ _, fun k hk => Or.inl hk⟩

set_option maxRecDepth 100000 in
set_option maxHeartbeats 800000 in
theorem refnum_any (w : World) (b : Nat) (F : List Nat) (room : Int) (st : List UInt8 × Int) (n : Int) (h : Xtr w b F room st) (hm : 0 ≤ room) (hm2 : room ≤ 9223372036854775807) (hl : st.1.length + 9 ≤ 70368744177664) :
    Calls Tryd.prog 25 #[.pointer (some ⟨b, 0, none⟩), .int .i64 n] w (XStep w b F room (layL room st (numRow n))) := by
  by_cases hr : n < 0 ∨ 4611686018427387904 < n
  · have e1 : numRow n = ([], 30) := by rw [numRow, if_pos hr]
    rw [e1]
    have HX := Lib.hid h
    obtain ⟨v, l, h1, h2, h3, rfl, h5, h6⟩ := h
    have c2 := cell_at h1 (k := 2) rfl
    have f2 := free_at h1 (k := 2)
    by_cases he : st.2 = 0
    · have e2 : layL room st ([], 30) = ([], 30) := by rw [layL, if_neg (by simp [he]), if_pos (by decide)]
      rw [e2]
      have hd : (st.2 == 0) = true := by simpa using he
      clear h1 h2 h3 h5 h6 e1 e2 he hl hm hm2
      by_cases h0 : n < 0
      · have q0 : decide (n < 0) = true := decide_eq_true h0
        clear hr
        go_enter Tryd.func25, Tryd.ntmps25
        go_wp2
        refine bodyPost_ret (results_none rfl _ _ _) rfl ?_
        exact ⟨rfl, xtr_err (n := 0) HX.out (by decide)⟩
      · have q0 : decide (n < 0) = false := decide_eq_false h0
        have q1 : decide ((4611686018427387904 : Int) < n) = true := decide_eq_true (by omega)
        clear hr h0
        go_enter Tryd.func25, Tryd.ntmps25
        go_wp2
        refine bodyPost_ret (results_none rfl _ _ _) rfl ?_
        exact ⟨rfl, xtr_err (n := 0) HX.out (by decide)⟩
    · have e2 : layL room st ([], 30) = st := by rw [layL, if_pos he]
      rw [e2]
      have hd : (st.2 == 0) = false := by simpa using he
      clear h1 h2 h3 h5 h6 e1 e2 he hl hm hm2
      by_cases h0 : n < 0
      · have q0 : decide (n < 0) = true := decide_eq_true h0
        clear hr
        go_enter Tryd.func25, Tryd.ntmps25
        go_wp2
        refine bodyPost_ret (results_none rfl _ _ _) rfl ?_
        exact ⟨rfl, _, HX.out, Upd.refl _ _, fun k hk => Or.inl hk⟩
      · have q0 : decide (n < 0) = false := decide_eq_false h0
        have q1 : decide ((4611686018427387904 : Int) < n) = true := decide_eq_true (by omega)
        clear hr h0
        go_enter Tryd.func25, Tryd.ntmps25
        go_wp2
        refine bodyPost_ret (results_none rfl _ _ _) rfl ?_
        exact ⟨rfl, _, HX.out, Upd.refl _ _, fun k hk => Or.inl hk⟩
  · obtain ⟨m, rfl⟩ : ∃ m : Nat, n = m := ⟨n.toNat, by omega⟩
    have e1 : numRow m = (rowL m, 0) := by rw [numRow, if_neg hr]; simp
    have hle : m ≤ 4611686018427387904 := by omega
    have hlen := rowL_len9 hle
    rw [e1]
    have HX := Lib.hid h
    have HM := Lib.hid hle
    have q0 : decide ((m : Int) < 0) = false := decide_eq_false (by omega)
    have q1 : decide ((4611686018427387904 : Int) < (m : Int)) = false := decide_eq_false (by omega)
    clear hr e1 h hle
    go_enter Tryd.func25, Tryd.ntmps25
    go_wp2_with (go_at_call 35; refine (refRow_any m _ HM.out).mono ?_; rintro e w1 ⟨rfl, hb⟩; unfold str)
    have HL := reflay_any w1 b F room st ⟨(rowL m).toArray⟩ (HX.out.kept (fun k hk => hb.block k (HX.out.lt k hk))) hm hm2 (by rw [size_mk]; omega)
    simp only at HL
    refine HL.mono ?_
    rintro e w' hs
    obtain ⟨rfl, hq⟩ := hs.after hb
    clear HL
    go_wp2
    go_end0
    exact ⟨rfl, hq⟩

set_option maxRecDepth 100000 in
set_option maxHeartbeats 800000 in
theorem reftext_any (w : World) (b : Nat) (F : List Nat) (room : Int) (st : List UInt8 × Int) (s : ByteArray) (h : Xtr w b F room st) (hm : 0 ≤ room) (hm2 : room ≤ 9223372036854775807) (hl : st.1.length + 65538 ≤ 70368744177664) :
    Calls Tryd.prog 26 #[.pointer (some ⟨b, 0, none⟩), .string s] w (XStep w b F room (layL room st (textRow s.data.toList))) := by
  have hsz : s.data.toList.length = s.size := by simp
  by_cases hr : 65535 < s.size
  · have e1 : textRow s.data.toList = ([], 31) := by rw [textRow, if_pos (by omega)]
    rw [e1]
    have HX := Lib.hid h
    obtain ⟨v, l, h1, h2, h3, rfl, h5, h6⟩ := h
    have c2 := cell_at h1 (k := 2) rfl
    have f2 := free_at h1 (k := 2)
    by_cases he : st.2 = 0
    · have e2 : layL room st ([], 31) = ([], 31) := by rw [layL, if_neg (by simp [he]), if_pos (by decide)]
      rw [e2]
      have hd : (st.2 == 0) = true := by simpa using he
      clear h1 h2 h3 h5 h6 e1 e2 he hl hm hm2 hsz
      go_enter Tryd.func26, Tryd.ntmps26
      go_wp2
      refine bodyPost_ret (results_none rfl _ _ _) rfl ?_
      exact ⟨rfl, xtr_err (n := 0) HX.out (by decide)⟩
    · have e2 : layL room st ([], 31) = st := by rw [layL, if_pos he]
      rw [e2]
      have hd : (st.2 == 0) = false := by simpa using he
      clear h1 h2 h3 h5 h6 e1 e2 he hl hm hm2 hsz
      go_enter Tryd.func26, Tryd.ntmps26
      go_wp2
      refine bodyPost_ret (results_none rfl _ _ _) rfl ?_
      exact ⟨rfl, _, HX.out, Upd.refl _ _, fun k hk => Or.inl hk⟩
  · have e1 : textRow s.data.toList = (rowL s.size ++ s.data.toList, 0) := by rw [textRow, if_neg (by omega), hsz]
    have hr' : s.size ≤ 65535 := by omega
    have hlen := rowL_len3 hr'
    rw [e1]
    have HX := Lib.hid h
    clear e1 h hsz hr
    go_enter Tryd.func26, Tryd.ntmps26
    go_wp2_with (go_at_call 35; refine (refRow_any s.size _ (by omega)).mono ?_; rintro e w1 ⟨rfl, hb⟩; unfold str)
    have hl2 := reflay_any w1 b F room st (⟨(rowL s.size).toArray⟩ ++ s) (HX.out.kept (fun k hk => hb.block k (HX.out.lt k hk))) hm hm2 (by rw [ByteArray.size_append, size_mk]; omega)
    rw [data_app] at hl2
    refine hl2.mono ?_
    rintro e w' hs
    obtain ⟨rfl, hq⟩ := hs.after hb
    clear hl2
    go_wp2
    go_end0
    exact ⟨rfl, hq⟩

set_option maxHeartbeats 800000 in
theorem refdone_any (w : World) (b : Nat) (F : List Nat) (room : Int) (st : List UInt8 × Int) (h : Xtr w b F room st) :
    Calls Tryd.prog 27 #[.pointer (some ⟨b, 0, none⟩)] w fun e w' => e = .returned (.tuple #[str st.1, .int .i64 st.2]) ∧ Below w.heap.size w w' := by
  obtain ⟨v, l, h1, h2, h3, rfl, h5, h6⟩ := h
  obtain ⟨l0, er⟩ := st
  simp only at h1 h5 h6 ⊢
  have c1 := cell_at h1 (k := 1) rfl
  have c2 := cell_at h1 (k := 2) rfl
  by_cases he : er = 0
  · subst he
    have := h5 rfl
    subst this
    have hst := h2.string
    clear h1 h2 h3 h5 h6
    go_enter Tryd.func27, Tryd.ntmps27
    go_wp2
    go_ret2
    exact ⟨rfl, Below.refl _ _⟩
  · have := h6 he
    subst this
    have hd : (er != 0) = true := by simpa using he
    clear h1 h2 h3 h5 h6
    go_enter Tryd.func27, Tryd.ntmps27
    go_wp2
    go_quiet (fail)
    go_wp2
    go_ret2
    exact ⟨rfl, ⟨rfl, rfl, rfl, Nat.le_refl _, fun _ _ => rfl⟩⟩
end Go.Proofs.YtcfnkphdmkepaaaDoor
