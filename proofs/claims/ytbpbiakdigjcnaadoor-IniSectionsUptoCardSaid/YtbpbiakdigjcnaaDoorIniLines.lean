/-
  Lists of lines in memory: what is read of them.
-/
import Derived.Test.YtbpbiakdigjcnaaDoorIniRead
import Derived.Test.YtbpbiakdigjcnaaDoorIniRefs
namespace Go.Proofs.YtbpbiakdigjcnaaDoor
open Go.ChangeShapes Go.WideShapes Go.ChangeAt Go.RowKit

instance : Inhabited LineV := ⟨⟨⟨#[]⟩, ⟨#[]⟩, 0⟩⟩
def LnAt (w : World) (b off i : Nat) (l : LineV) : Prop :=
  w.cell? ⟨b, off + i * 3, none⟩ = some (.string l.name) ∧ w.cell? ⟨b, off + i * 3 + 1, none⟩ = some (.string l.text) ∧ w.cell? ⟨b, off + i * 3 + 2, none⟩ = some (.int .i64 l.num)
/-- A list of lines in memory. -/
def Lns (w : World) (x : Option Addr) (ls : List LineV) : Prop :=
  ∀ k (h : k < ls.length), ∃ b off, x = some ⟨b, off, none⟩ ∧ b < w.heap.size ∧ LnAt w b off k ls[k]
theorem Lns.nil_ (w : World) (x : Option Addr) : Lns w x [] := fun k h => absurd h (by simp)
theorem LnAt.below {w w' : World} {b off i : Nat} {l : LineV} (h : LnAt w b off i l) (hl : b < w.heap.size) (hb : Below w.heap.size w w') : LnAt w' b off i l :=
  ⟨by rw [hb.cell (p := ⟨b, off + i * 3, none⟩) hl]; exact h.1, by rw [hb.cell (p := ⟨b, off + i * 3 + 1, none⟩) hl]; exact h.2.1, by rw [hb.cell (p := ⟨b, off + i * 3 + 2, none⟩) hl]; exact h.2.2⟩
theorem Lns.below {w w' : World} {x : Option Addr} {ls : List LineV} (h : Lns w x ls) (hb : Below w.heap.size w w') : Lns w' x ls := fun k hk => by
  obtain ⟨b, off, e, hl, hc⟩ := h k hk
  exact ⟨b, off, e, Nat.lt_of_lt_of_le hl hb.size, hc.below hl hb⟩
theorem flatL_at (ls : List LineV) : ∀ (k : Nat) (h : k < ls.length) (j : Nat), j < 3 → (flatL ls)[k * 3 + j]? = (lCells ls[k])[j]? := by
  induction ls with
  | nil => intro k h; simp at h
  | cons l r ih =>
    intro k h j hj
    have e : flatL (l :: r) = lCells l ++ flatL r := by unfold flatL; rw [List.flatMap_cons]
    rw [e]
    cases k with
    | zero => rw [List.getElem?_append_left (by simp [lCells]; omega)]; simp
    | succ k =>
      rw [List.getElem?_append_right (by simp [lCells]; omega)]
      have : (k + 1) * 3 + j - (lCells l).length = k * 3 + j := by simp [lCells]; omega
      rw [this, ih k (by simpa using h) j hj]; simp
theorem Lns.of_cells {w : World} {g off : Nat} {ls : List LineV} (hg : g < w.heap.size) (h : ∀ j u, (flatL ls)[j]? = some u → w.cell? ⟨g, off + j, none⟩ = some u) : Lns w (some ⟨g, off, none⟩) ls := fun k hk => by
  have h0 := h (k * 3 + 0) _ (flatL_at ls k hk 0 (by decide))
  have h1 := h (k * 3 + 1) _ (flatL_at ls k hk 1 (by decide))
  have h2 := h (k * 3 + 2) _ (flatL_at ls k hk 2 (by decide))
  refine ⟨g, off, rfl, hg, ?_, ?_, ?_⟩
  · simpa using h0
  · rw [Nat.add_assoc]; exact h1
  · rw [Nat.add_assoc]; exact h2
theorem Lns.of_own {w : World} {B n : Nat} {v : Value} {ls : List LineV} (h : w.ownsRow B 35 3 v n (flatL ls)) (hn : ls.length = n) : ∃ x c, v = .slice x n c ∧ Lns w x ls := by
  rcases h.2 with ⟨h1, h2⟩ | ⟨g, cap, cur, h1, _, hg, _⟩
  · refine ⟨none, 0, by rw [h1, h2], ?_⟩
    have : ls = [] := List.eq_nil_of_length_eq_zero (by omega)
    rw [this]; exact Lns.nil_ _ _
  · refine ⟨_, _, h1, Lns.of_cells ?_ ?_⟩
    · exact (Array.getElem?_eq_some_iff.1 hg).1
    · intro j u hj
      have := World.ownsRow.cells h (g := g) (by rw [h1]; rfl) j u hj
      rw [add_zero_at] at this
      rw [Nat.zero_add]; exact this

set_option maxHeartbeats 800000 in
set_option maxRecDepth 100000 in
theorem there_any (x : Option Addr) (c : Nat) (ls : List LineV) (nm : ByteArray) (w : World) (h : Lns w x ls) (hn : ls.length ≤ 4611686018427387904) :
    Calls Tryd.prog 21 #[.slice x ls.length c, .string nm] w fun e w' => e = .returned (.bool (givenB ls nm.data.toList)) ∧ w = w' := by
  have HL := Lib.hid h
  obtain ⟨r, hr⟩ : ∃ r, givenB ls nm.data.toList = r := ⟨_, rfl⟩
  have HR : Hid (givenB (ls.drop 0) nm.data.toList = r) := Lib.hid hr
  rw [hr]
  obtain ⟨n, hn'⟩ : ∃ n, ls.length = n := ⟨_, rfl⟩
  have HN := Lib.hid hn'
  rw [hn'] at hn ⊢
  clear h hr hn'
  go_enter Tryd.func21, Tryd.ntmps21
  go_wp2
  go_loop [5] (fun i => ∃ t : Nat, i = .int .i64 t ∧ t ≤ n ∧ Hid (givenB (ls.drop t) nm.data.toList = r)) (fun i => n - (intOf i).toNat)
  case atStart => exact ⟨0, rfl, by omega, HR⟩
  case round =>
    clear HR
    obtain ⟨t, rfl, ht, HR⟩ := hrel
    by_cases hlt : t < n
    · have htx : t < ls.length := by rw [HN.out]; exact hlt
      obtain ⟨b, off, hxe, hbl, c0, c1, c2⟩ := HL.out t htx
      have hd : givenB (ls.drop t) nm.data.toList = (decide (ls[t].name.data.toList = nm.data.toList) || givenB (ls.drop (t + 1)) nm.data.toList) := by
        rw [List.drop_eq_getElem_cons htx]; rfl
      generalize ls[t] = l at c0 c1 c2 hd
      obtain ⟨lm, lt, ln⟩ := l
      simp only at c0 hd
      have HD := Lib.hid hd
      have q1 : (0 : Int) ≤ t := by omega
      have q2 : (t : Int) < n := by omega
      subst hxe
      clear hd c1 c2 htx
      by_cases hl : lm = nm
      · subst hl
        have HE : Hid (r = true) := Lib.hid (by rw [← HR.out, HD.out]; simp)
        go_wp2
        go_ret
        exact ⟨by rw [HE.out]; first | done | rfl, rfl⟩
      · have hl' : ¬ lm.data.toList = nm.data.toList := fun e => hl (by rw [← mkB_self lm, e, mkB_self])
        have HE : Hid (givenB (ls.drop (t + 1)) nm.data.toList = r) := Lib.hid (by rw [← HR.out, HD.out, decide_eq_false hl', Bool.false_or])
        have d3 : (lm.toList == nm.toList) = false := beq_eq_false_iff_ne.2 (fun h => hl' (by rw [← toList_eq, h, toList_eq]))
        clear hl hl'
        go_wp2
        go_round
        case rel => exact ⟨t + 1, by go_num, by omega, HE⟩
        case measure => simp [intOf]; omega
    · have HE : Hid (r = false) := Lib.hid (by rw [← HR.out, List.drop_eq_nil_of_le (by rw [HN.out]; omega)]; rfl)
      have q2 : ¬ (t : Int) < n := by omega
      go_wp2
      go_ret
      exact ⟨by rw [HE.out]; first | done | rfl, rfl⟩
end Go.Proofs.YtbpbiakdigjcnaaDoor
