/-
  A Writer and the document's own beside it; the walks of 'writes' and 'written'.
-/
import Derived.Test.YtdnhhhabldclhaaDoorCodecScript
namespace Go.Proofs.YtdnhhhabldclhaaDoor
open Go.ChangeShapes Go.WideShapes Go.ChangeAt Go.RowKit

/-- Both Writers, holding the same; the blocks H are theirs. -/
def Pair (w : World) (b c : Nat) (H : List Nat) (m : Int) (st : List UInt8 × Int) : Prop :=
  ∃ F G, Wtr w b F m st ∧ Xtr w c G m st ∧ (∀ k ∈ F, k ∉ G) ∧ H = F ++ G
def PStep (w : World) (b c : Nat) (H : List Nat) (m : Int) (st : List UInt8 × Int) (e : Ending) (w' : World) : Prop :=
  e = .returned (.tuple #[]) ∧ ∃ H', Pair w' b c H' m st ∧ Upd H w w' ∧ ∀ k ∈ H', k ∈ H ∨ w.heap.size ≤ k
theorem Pair.kept {w w' : World} {b c : Nat} {H : List Nat} {m : Int} {st : List UInt8 × Int} (h : Pair w b c H m st) (hk : ∀ k ∈ H, w'.heap[k]? = w.heap[k]?) : Pair w' b c H m st := by
  obtain ⟨F, G, h1, h2, h3, rfl⟩ := h
  exact ⟨F, G, h1.kept (fun k hk' => hk k (by simp [hk'])), h2.kept (fun k hk' => hk k (by simp [hk'])), h3, rfl⟩
theorem Pair.lt {w : World} {b c : Nat} {H : List Nat} {m : Int} {st : List UInt8 × Int} (h : Pair w b c H m st) : ∀ k ∈ H, k < w.heap.size := by
  obtain ⟨F, G, h1, h2, h3, rfl⟩ := h
  intro k hk
  rcases List.mem_append.1 hk with h | h
  · exact h1.lt k h
  · exact h2.lt k h
theorem Pair.below {w w' : World} {b c : Nat} {H : List Nat} {m : Int} {st : List UInt8 × Int} (h : Pair w b c H m st) (hb : Below w.heap.size w w') : Pair w' b c H m st := h.kept (fun k hk => hb.block k (h.lt k hk))

/-- One call of each, one behind the other. -/
theorem pair_step {w w1 w2 : World} {b c : Nat} {F G : List Nat} {m : Int} {st : List UInt8 × Int} {e1 e2 : Ending} (hG : ∀ k ∈ G, k < w.heap.size) (hd : ∀ k ∈ F, k ∉ G)
    (h1 : WStep w b F m st e1 w1) (h2 : XStep w1 c G m st e2 w2) : ∃ H', Pair w2 b c H' m st ∧ Upd (F ++ G) w w2 ∧ ∀ k ∈ H', k ∈ F ++ G ∨ w.heap.size ≤ k := by
  obtain ⟨_, F', hW, hu1, hF'⟩ := h1
  obtain ⟨_, G', hX, hu2, hG'⟩ := h2
  have hs := hu1.size
  have hFG : ∀ k ∈ F', k ∉ G := fun k hk hg => by
    rcases hF' k hk with h | h
    · exact hd k h hg
    · have := hG k hg; omega
  refine ⟨F' ++ G', ⟨F', G', hW.kept (fun k hk => hu2.block k (hW.lt k hk) (hFG k hk)), hX, fun k hk hg => ?_, rfl⟩, (hu1.mono (fun x hx => by simp [hx])).trans hu2 (fun x hx => Or.inl (by simp [hx])), fun k hk => ?_⟩
  · rcases hG' k hg with h | h
    · exact hFG k hk h
    · have := hW.lt k hk; omega
  · rcases List.mem_append.1 hk with h | h
    · rcases hF' k h with h' | h'
      · exact Or.inl (by simp [h'])
      · exact Or.inr h'
    · rcases hG' k h with h' | h'
      · exact Or.inl (by simp [h'])
      · exact Or.inr (by omega)

/-- What a call of a script leaves. -/
def opS (m : Int) (st : List UInt8 × Int) (o : OpV) : List UInt8 × Int :=
  if o.kind = 1 then layL m st (numRow o.n) else if o.kind = 2 then layL m st (textRow o.s.data.toList) else st
theorem opS_len (m : Int) (st : List UInt8 × Int) (o : OpV) : (opS m st o).1.length ≤ st.1.length + 65538 := by
  unfold opS; split
  · have h1 := layL_len m st (numRow o.n)
    have h2 := numRow_len o.n
    omega
  · split
    · have h1 := layL_len m st (textRow o.s.data.toList)
      have h2 := (textRow_len o.s.data.toList).1
      omega
    · omega

set_option maxRecDepth 100000 in
set_option maxHeartbeats 1600000 in
theorem writes_any (w : World) (b c : Nat) (H : List Nat) (m : Int) (st : List UInt8 × Int) (o : OpV) (h : Pair w b c H m st) (hm : 0 ≤ m) (hm2 : m ≤ 9223372036854775807) (hl : st.1.length + 65538 ≤ 70368744177664) (ho : o.ok) :
    Calls Tryd.prog 11 #[.pointer (some ⟨b, 0, none⟩), .pointer (some ⟨c, 0, none⟩), .agg #[.int .i64 o.kind, .int .i64 o.on, .int .i64 o.n, .string o.s]] w (PStep w b c H m (opS m st o)) := by
  obtain ⟨_, ⟨_, hn⟩, _⟩ := ho
  have hb0 : Below w.heap.size w (w.alloc (.cells #[.int .i64 o.kind, .int .i64 o.on, .int .i64 o.n, .string o.s] 33)) := (Below.refl _ _).alloc (Nat.le_refl _) _
  have hP := h.below hb0
  obtain ⟨F, G, hW, hX, hd, rfl⟩ := hP
  have HW := Lib.hid hW
  have HX := Lib.hid hX
  have HD := Lib.hid hd
  have HB := Lib.hid hb0
  have HP := Lib.hid h
  clear hW hX hd hb0 h
  by_cases h1 : o.kind = 1
  · have e1 : opS m st o = layL m st (numRow o.n) := if_pos h1
    rw [e1]
    have d1 : (o.kind == 1) = true := by simpa using h1
    clear h1 e1
    go_enter Tryd.func11, Tryd.ntmps11
    go_wp2_with fail
    refine (num_any _ _ _ _ _ _ HW.out hm hm2 (by omega) (by omega)).mono ?_
    rintro e w1 hs1
    have he1 := hs1.1
    subst he1
    obtain ⟨_, F', hW1, hu1, hF1⟩ := hs1
    have hX1 := HX.out.kept (fun k hk => hu1.block k (HX.out.lt k hk) (fun hx => HD.out k hx hk))
    have hs1 : WStep _ _ _ _ _ (.returned (.tuple #[])) w1 := ⟨rfl, F', hW1, hu1, hF1⟩
    have HS1 := Lib.hid hs1
    have hc2 := hu1.block w.heap.size (by simp) (fun hx => by have := HP.out.lt w.heap.size (by simp [hx]); omega)
    have hcell : w1.cell? ⟨w.heap.size, 2, none⟩ = some (.int .i64 o.n) := by
      rw [World.cell?_of_block (a := ⟨w.heap.size, 2, none⟩) hc2]; simp
    clear hs1 hW1 hu1 hF1 hc2
    go_wp2_with fail
    refine (refnum_any _ _ _ _ _ _ hX1 hm hm2 (by omega)).mono ?_
    rintro e w2 hs2
    have he2 := hs2.1
    subst he2
    have hfin := pair_step HX.out.lt HD.out HS1.out hs2
    clear hs2 hX1
    go_wp2
    go_end0
    obtain ⟨H', q1, q2, q3⟩ := hfin
    exact ⟨rfl, H', q1, (Upd.of_below HB.out).trans q2 (fun x hx => Or.inl hx), fun k hk => by rcases q3 k hk with h | h; exact Or.inl h; exact Or.inr (Nat.le_trans HB.out.size h)⟩
  · by_cases h2 : o.kind = 2
    · have e1 : opS m st o = layL m st (textRow o.s.data.toList) := by rw [opS, if_neg h1, if_pos h2]
      rw [e1]
      have d1 : (o.kind == 1) = false := by simpa using h1
      have d2 : (o.kind == 2) = true := by simpa using h2
      clear h1 h2 e1
      go_enter Tryd.func11, Tryd.ntmps11
      go_wp2_with fail
      refine (text_any _ _ _ _ _ _ HW.out hm hm2 (by omega)).mono ?_
      rintro e w1 hs1
      have he1 := hs1.1
      subst he1
      obtain ⟨_, F', hW1, hu1, hF1⟩ := hs1
      have hX1 := HX.out.kept (fun k hk => hu1.block k (HX.out.lt k hk) (fun hx => HD.out k hx hk))
      have hs1 : WStep _ _ _ _ _ (.returned (.tuple #[])) w1 := ⟨rfl, F', hW1, hu1, hF1⟩
      have HS1 := Lib.hid hs1
      have hc2 := hu1.block w.heap.size (by simp) (fun hx => by have := HP.out.lt w.heap.size (by simp [hx]); omega)
      have hcell : w1.cell? ⟨w.heap.size, 3, none⟩ = some (.string o.s) := by
        rw [World.cell?_of_block (a := ⟨w.heap.size, 3, none⟩) hc2]; simp
      clear hs1 hW1 hu1 hF1 hc2
      go_wp2_with fail
      refine (reftext_any _ _ _ _ _ _ hX1 hm hm2 (by omega)).mono ?_
      rintro e w2 hs2
      have he2 := hs2.1
      subst he2
      have hfin := pair_step HX.out.lt HD.out HS1.out hs2
      clear hs2 hX1
      go_wp2
      go_end0
      obtain ⟨H', q1, q2, q3⟩ := hfin
      exact ⟨rfl, H', q1, (Upd.of_below HB.out).trans q2 (fun x hx => Or.inl hx), fun k hk => by rcases q3 k hk with h | h; exact Or.inl h; exact Or.inr (Nat.le_trans HB.out.size h)⟩
    · have e1 : opS m st o = st := by rw [opS, if_neg h1, if_neg h2]
      rw [e1]
      have d1 : (o.kind == 1) = false := by simpa using h1
      have d2 : (o.kind == 2) = false := by simpa using h2
      clear h1 h2 e1
      go_enter Tryd.func11, Tryd.ntmps11
      go_wp2
      go_end0
      exact ⟨rfl, _, HP.out.below HB.out, Upd.of_below HB.out, fun k hk => Or.inl hk⟩

theorem written_any (w : World) (b c : Nat) (H : List Nat) (m : Int) (st : List UInt8 × Int) (h : Pair w b c H m st) (hh : Hand w) :
    Calls Tryd.prog 12 #[.pointer (some ⟨b, 0, none⟩), .pointer (some ⟨c, 0, none⟩)] w fun e w' => e = .returned (.bool true) ∧ Below w.heap.size w w' := by
  obtain ⟨F, G, hW, hX, hd, rfl⟩ := h
  have HD := Lib.hid (done_any w b F m st hW hh)
  clear hd
  go_enter Tryd.func12, Tryd.ntmps12
  go_wp2_with fail
  refine HD.out.mono ?_
  rintro e w1 ⟨rfl, hb1⟩
  unfold str
  have hX1 := hX.kept (fun k hk => hb1.block k (hX.lt k hk))
  clear HD hX hW
  go_wp2_with fail
  refine (refdone_any _ _ _ _ _ hX1).mono ?_
  rintro e w2 ⟨rfl, hb2⟩
  unfold str
  clear hX1
  go_wp2
  go_ret
  exact ⟨rfl, hb1.trans (hb2.mono hb1.size)⟩
end Go.Proofs.YtdnhhhabldclhaaDoor
