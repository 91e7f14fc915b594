/-
  The walk of package ini's names: a set of names, in a map.
-/
import Derived.Test.YtbpbiakdigjcnaaDoorIniSmall
import Derived.Test.YtbpbiakdigjcnaaDoorBut
import Derived.Maps.OwnSet
import Derived.Maps.Views
namespace Go.Proofs.YtbpbiakdigjcnaaDoor
open Go.ChangeShapes Go.WideShapes Go.ChangeAt Go.RowKit Go.Maps

def keyL (l : List UInt8) : Lit := .string l
/-- A map that holds those names. -/
def SetM (w : World) (M : Nat) (l : List (List UInt8)) : Prop := w.ownsMap Tryd.prog 9 (unitElem (H := Unit)) M l.length (Maps.setOf (.agg []) (l.map keyL))
theorem SetM.lt {w : World} {M : Nat} {l : List (List UInt8)} (h : SetM w M l) : M < w.heap.size := World.ownsMap.lt h
theorem SetM.same {w w' : World} {M : Nat} {l : List (List UInt8)} (h : SetM w M l) (hb : w'.heap[M]? = w.heap[M]?) : SetM w' M l := by
  obtain ⟨es, clock, h1, h2⟩ := h
  exact ⟨es, clock, by rw [hb]; exact h1, h2⟩
theorem SetM.below {w w' : World} {M : Nat} {l : List (List UInt8)} (h : SetM w M l) (hb : Below w.heap.size w w') : SetM w' M l := h.same (hb.block M h.lt)
theorem SetM.made (w : World) : SetM (w.alloc (.map #[] 0)) w.heap.size [] := World.ownsMap_made w _ _ _
theorem zeroUnit (w : World) : (zeroValue 66).run Tryd.prog w = .ok (.agg #[]) w := by kernel_rfl
theorem strKey : Maps.Keyed Tryd.prog 9 := Maps.string_keyed Tryd.underlying9
theorem has_names (l : List (List UInt8)) (n : List UInt8) : Maps.has (Maps.setOf (H := Unit) (.agg []) (l.map keyL)) (keyL n) = l.contains n := by
  rw [Maps.has_setOf _ _ _ (fun x hx => by obtain ⟨y, _, rfl⟩ := List.mem_map.1 hx; trivial)]
  rw [Bool.eq_iff_iff]
  simp only [List.any_eq_true, List.mem_map, List.contains_iff_mem]
  constructor
  · rintro ⟨x, ⟨y, hy, rfl⟩, hs⟩
    have := WideAt.sameKey_eq hs
    unfold keyL at this
    injection this with this
    rw [← this]; exact hy
  · intro h
    exact ⟨keyL n, ⟨n, h, rfl⟩, WideAt.sameKey_self trivial⟩
theorem But.grown {S : Nat} {w w' : World} (h : w.grownBy w' (some S)) : But S w w' := ⟨h.os, h.tape, h.output, h.size, fun k hk hn => h.block k hk (by simpa using hn)⟩
/-- What 'add' does. -/
def AddRes (w : World) (M : Nat) (l : List (List UInt8)) (n : List UInt8) (e : Ending) (w' : World) : Prop :=
  e = .returned (.bool (!l.contains n && nameB n)) ∧ But M w w' ∧ SetM w' M (if l.contains n = false ∧ nameB n = true then l ++ [n] else l)
set_option maxHeartbeats 1600000 in
set_option maxRecDepth 100000 in
theorem nadd_any (s : ByteArray) (M : Nat) (l : List (List UInt8)) (w : World) (h : SetM w M l) (hT : Tab w) (hs : s.size ≤ 4294967280) (hl : l.length ≤ 4294967280) :
    Calls Tryd.prog 35 #[.map (some M), .string s] w (AddRes w M l s.data.toList) := by
  have hsl : s.data.toList.length = s.size := by simp
  have hkey : keyOf Tryd.prog 9 (.string s) = some (keyL s.data.toList) := WideMaps.keyOf_string_mk Tryd.underlying9 (by unfold maxLen; omega)
  have HH := has_names l s.data.toList
  have HS := Lib.hid h
  have HB0 : Hid (∀ o, But M w (w.alloc o) ∧ SetM (w.alloc o) M l) := Lib.hid fun o => ⟨But.of_below (below_one w o), h.below (below_one w o)⟩
  have HN : Hid (∀ o, Calls Tryd.prog 43 #[.string s] (w.alloc o) fun e w' => e = .returned (.bool (nameB s.data.toList)) ∧ w.alloc o = w') := Lib.hid fun o => isName_any s _ (hT.below (below_one w o)) (by unfold maxLen; omega)
  have HE : Hid (∀ e w', e = .returned (.bool (!l.contains s.data.toList && nameB s.data.toList)) ∧ But M w w' ∧ SetM w' M (if l.contains s.data.toList = false ∧ nameB s.data.toList = true then l ++ [s.data.toList] else l) → AddRes w M l s.data.toList e w') := Lib.hid fun e w' h => h
  have HSN : Hid (Maps.setOf (H := Unit) (.agg []) ((l ++ [s.data.toList]).map keyL) = (Maps.setOf (.agg []) (l.map keyL)).put (keyL s.data.toList) (.agg [])) := Lib.hid (by rw [List.map_append]; exact Maps.setOf_snoc _ _ _)
  have hlen : (l ++ [s.data.toList]).length = l.length + 1 := by simp
  have HLN := Lib.hid hlen
  have hl2 : l.length < maxLen := by unfold maxLen; omega
  cases hc : l.contains s.data.toList with
  | true =>
    rw [hc] at HE HH
    rw [if_neg (by simp)] at HE
    clear hsl h hT hs hl hc hlen
    go_enter Tryd.func35, Tryd.ntmps35
    go_wp2_with (at_lookup; refine wpList_lookup_own_unit _ rfl _ _ 56 rfl 9 66 strKey Tryd.underlying56 (zeroUnit _) M l.length _ rfl HS.out _ _ rfl hkey ?_; rw [HH])
    go_ret
    exact HE.out _ _ ⟨rfl, (HB0.out _).1, (HB0.out _).2⟩
  | false =>
    rw [hc] at HE HH
    cases hn : nameB s.data.toList with
    | false =>
      rw [hn] at HE HN
      rw [if_neg (by simp)] at HE
      clear hsl h hT hs hl hc hlen hn
      go_enter Tryd.func35, Tryd.ntmps35
      go_wp2_with (at_lookup; refine wpList_lookup_own_unit _ rfl _ _ 56 rfl 9 66 strKey Tryd.underlying56 (zeroUnit _) M l.length _ rfl HS.out _ _ rfl hkey ?_; rw [HH])
      refine (HN.out _).mono ?_
      rintro e w' ⟨rfl, rfl⟩
      go_wp2
      go_ret
      exact HE.out _ _ ⟨rfl, (HB0.out _).1, (HB0.out _).2⟩
    | true =>
      rw [hn] at HE HN
      rw [if_pos ⟨rfl, rfl⟩] at HE
      clear hsl h hT hs hl hc hlen hn
      go_enter Tryd.func35, Tryd.ntmps35
      go_wp2_with (at_lookup; refine wpList_lookup_own_unit _ rfl _ _ 56 rfl 9 66 strKey Tryd.underlying56 (zeroUnit _) M l.length _ rfl HS.out _ _ rfl hkey ?_; rw [HH])
      refine (HN.out _).mono ?_
      rintro e w' ⟨rfl, rfl⟩
      go_wp2_with (at_mapUpdate; refine wpList_mapUpdate_own _ rfl _ _ _ 56 rfl 9 66 strKey Tryd.underlying56 (unitElem (H := Unit)) M l.length _ rfl (HB0.out _).2 hl2 _ _ _ rfl rfl hkey _ [] unitElem_mk ?_; intro w1 hown1 hgrow1; have HG := Lib.hid (And.intro hown1 (But.grown hgrow1)); clear hown1 hgrow1)
      go_ret
      exact HE.out _ _ ⟨rfl, ⟨HG.out.2.1, HG.out.2.2.1, HG.out.2.2.2.1, Nat.le_trans (below_one w _).size HG.out.2.2.2.2.1, fun k hk hn => (HG.out.2.2.2.2.2 k (Nat.lt_of_lt_of_le hk (below_one w _).size) hn).trans ((below_one w _).block k hk)⟩, by unfold SetM; rw [HSN.out, HLN.out]; exact HG.out.1⟩
end Go.Proofs.YtbpbiakdigjcnaaDoor
