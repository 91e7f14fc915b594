/-
  The walk of IniParses.
-/
import Derived.Test.YtbpbiakdigjcnaaDoorIniParses0
import Derived.Test.YtbpbiakdigjcnaaDoorIniAwake
namespace Go.Proofs.YtbpbiakdigjcnaaDoor
open Go.ChangeShapes Go.WideShapes Go.ChangeAt Go.RowKit

theorem row_new (W : World) (xs : List ByteArray) (t0 : TypeId) : ∀ k, k < xs.length → (W.alloc (Obj.cells (xs.map Value.string).toArray t0)).cell? ⟨W.heap.size, k, none⟩ = some (.string (xs.getD k ⟨#[]⟩)) := by
  intro k hk
  rw [World.cell?_alloc_at _ _ _ _ rfl]
  simp [List.getD, hk]
theorem parses_lit (xs : List ByteArray) (W : World) (t0 : TypeId) (c : Nat) (hT : Tab W) (hI : MaxI W) (h0 : 0 < xs.length) (h1 : xs.length ≤ 100) (hs : ∀ x ∈ xs, x.size ≤ 4294967280) :
    Calls Tryd.prog 10 #[.slice (some ⟨W.heap.size, 0, none⟩) xs.length c] (W.alloc (Obj.cells (xs.map Value.string).toArray t0)) fun e w' => e = .returned (.bool true) ∧ Below W.heap.size W w' := by
  have hb2 := below_one W (Obj.cells (xs.map Value.string).toArray t0)
  refine (parses_any xs.length W.heap.size c (fun k => xs.getD k ⟨#[]⟩) _ (hT.below hb2) (maxI_below hI hb2) (row_new W xs t0) (fun k hk => ?_) h1 h0).mono ?_
  · have : xs.getD k ⟨#[]⟩ = xs[k] := by simp [List.getD, hk]
    simp only [this]
    exact hs _ (List.getElem_mem hk)
  · rintro e w' ⟨rfl, hb4⟩
    exact ⟨rfl, hb2.trans (hb4.mono hb2.size)⟩
set_option maxHeartbeats 1600000 in
set_option maxRecDepth 100000 in
theorem iniParses_any (s t : ByteArray) (w : World) (hT : Tab w) (hI : MaxI w) (hs : s.size ≤ maxLen) (ht : t.size ≤ maxLen) :
    Calls Tryd.prog 3 #[.string s, .string t] w fun e w' => e = .returned (.bool true) ∧ Below w.heap.size w w' := by
  unfold maxLen at hs ht
  have HAD := Lib.hid (iadd_any s.size t.size w (by omega) (by omega) (by omega) (by omega))
  have hin := addI_in (n := s.size) (m := t.size) (by omega) (by omega)
  have hA : addI s.size t.size ≤ 536870911 → s.size + t.size ≤ 536870911 := by
    unfold addI; split <;> omega
  obtain ⟨A, hAe⟩ : ∃ A, addI s.size t.size = A := ⟨_, rfl⟩
  rw [hAe] at HAD hin hA
  clear hAe
  by_cases hb : 536870911 < A
  · go_enter Tryd.func3, Tryd.ntmps3
    go_wp2_with fail
    refine HAD.out.mono ?_
    rintro e w' ⟨rfl, rfl⟩
    go_wp2
    go_ret
    exact ⟨rfl, Below.refl _ _⟩
  · have hst := hA (by omega)
    have HAW := Lib.hid (iawake_any w hT hI)
    have HPS : Hid (∀ W t0 c, Below w.heap.size w W → Calls Tryd.prog 10 #[.slice (some ⟨W.heap.size, 0, none⟩) 5 c] (W.alloc (Obj.cells ([s, t, s, (s ++ (⟨#[10]⟩ : ByteArray)) ++ t, s ++ t].map Value.string).toArray t0)) fun e w' => e = .returned (.bool true) ∧ Below w.heap.size w w') := Lib.hid fun W t0 c hb => by
      refine (parses_lit [s, t, s, (s ++ (⟨#[10]⟩ : ByteArray)) ++ t, s ++ t] W t0 c (hT.below hb) (maxI_below hI hb) (by simp) (by simp) ?_).mono ?_
      · intro x hx
        have z1 : (⟨#[10]⟩ : ByteArray).size = 1 := rfl
        simp only [List.mem_cons, List.not_mem_nil, or_false] at hx
        rcases hx with rfl | rfl | rfl | rfl | rfl <;> (try simp only [ByteArray.size_append]) <;> omega
      · rintro e w' ⟨rfl, hb4⟩
        exact ⟨rfl, hb.trans (hb4.mono hb.size)⟩
    have zj1 : ¬ 9223372036854775807 < s.size + 1 := by omega
    have zj2 : ¬ 9223372036854775807 < s.size + 1 + t.size := by omega
    have zj3 : ¬ 9223372036854775807 < s.size + t.size := by omega
    clear hT hI hA hst
    go_enter Tryd.func3, Tryd.ntmps3
    go_wp2_with fail
    refine HAD.out.mono ?_
    rintro e w' ⟨rfl, rfl⟩
    go_wp2_with fail
    refine HAW.out.mono ?_
    rintro e w1 ⟨rfl, hb1⟩
    have HB1 := Lib.hid hb1
    clear hb1
    go_wp2_with fail
    refine (HPS.out w1 _ _ HB1.out).mono ?_
    rintro e w2 ⟨rfl, hb2⟩
    go_wp2
    go_ret
    exact ⟨rfl, hb2⟩
end Go.Proofs.YtbpbiakdigjcnaaDoor
