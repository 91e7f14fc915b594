/-
  SetOwn.
-/
import Derived.Test.YtopghlnoklajkaaGreatDoorQSetKit
import Derived.Test.YtopghlnoklajkaaGreatDoorQValueRight
import Derived.Test.YtopghlnoklajkaaGreatDoorQValueBox
namespace Go.Proofs.YtopghlnoklajkaaGreatDoor
open Go.ChangeShapes Go.WideShapes Go.ChangeAt Go.RowKit

theorem ownLess {w : World} {B B' : Nat} {e : TypeId} {size n : Nat} {v : Value} {xs : List Value} (h : w.ownsRow B' e size v n xs) (hB : B ≤ B') : w.ownsRow B e size v n xs := by
  refine ⟨h.1, ?_⟩
  rcases h.2 with h2 | ⟨g, cap, cur, h1, h2, h3⟩
  · exact .inl h2
  · exact .inr ⟨g, cap, cur, h1, Nat.le_trans hB h2, h3⟩
theorem setGrown (w : World) (S i : Nat) (u : Value) : w.grownBy (w.setCell ⟨S, i, none⟩ u) (some S) := ⟨rfl, rfl, rfl, by simp [World.setCell], fun q _ hne => Below.heap_setCell _ _ _ _ (fun e => hne (by rw [e]))⟩
/-- A store below a row leaves it. -/
theorem rowSet {w : World} {B S i : Nat} {e : TypeId} {size n : Nat} {v u : Value} {xs : List Value} (h : w.ownsRow B e size v n xs) (hS : S < B) : (w.setCell ⟨S, i, none⟩ u).ownsRow B e size v n xs :=
  h.kept (setGrown w S i u) (.inr fun hq => by have := (h.lt S hq).1; omega)
theorem five_cells (w w3 : World) (S : Nat) (a b c d e : Value) {B n : Nat} {v : Value} {xs : List Value} (hb : Below w.heap.size w w3) (hS : w.heap.size ≤ S) (hB : S + 2 ≤ B) (h : w3.ownsRow B 9 1 v n xs) :
    (((((w3.setCell ⟨S, 3, none⟩ a).setCell ⟨S + 1, 0, none⟩ b).setCell ⟨S + 1, 1, none⟩ c).setCell ⟨S + 1, 2, none⟩ d).setCell ⟨S + 1, 3, none⟩ e).ownsRow w.heap.size 9 1 v n xs ∧
    Below w.heap.size w (((((w3.setCell ⟨S, 3, none⟩ a).setCell ⟨S + 1, 0, none⟩ b).setCell ⟨S + 1, 1, none⟩ c).setCell ⟨S + 1, 2, none⟩ d).setCell ⟨S + 1, 3, none⟩ e) := by
  refine ⟨ownLess ?_ (show w.heap.size ≤ B by omega), ?_⟩
  · exact rowSet (rowSet (rowSet (rowSet (rowSet h (by omega)) (by omega)) (by omega)) (by omega)) (by omega)
  · exact ((((hb.setCell (p := ⟨S, 3, none⟩) hS a).setCell (p := ⟨S + 1, 0, none⟩) (show w.heap.size ≤ S + 1 by omega) b).setCell (p := ⟨S + 1, 1, none⟩) (show w.heap.size ≤ S + 1 by omega) c).setCell (p := ⟨S + 1, 2, none⟩) (show w.heap.size ≤ S + 1 by omega) d).setCell (p := ⟨S + 1, 3, none⟩) (show w.heap.size ≤ S + 1 by omega) e
set_option maxHeartbeats 1600000 in
set_option maxRecDepth 100000 in
theorem sown_any (w : World) (v : Val) (x : Option Addr) (c : Nat) (h : TxAt w x v.words) (hl : v.words.length ≤ 4294967280) :
    Calls Tryz.prog 36 #[argV v x c] w fun e w' => ∃ y d, e = .returned (argV v y d) ∧ w'.ownsRow w.heap.size 9 1 (.slice y v.words.length d) v.words.length (v.words.map Value.string) ∧ Below w.heap.size w w' := by
  obtain ⟨kd, it, tx, ws⟩ := v
  simp only at h hl ⊢
  obtain ⟨n, hn⟩ : ∃ n, ws.length = n := ⟨_, rfl⟩
  have HN := Lib.hid hn
  have HB : Hid (∀ o1 o2, TxAt ((w.alloc o1).alloc o2) x ws ∧ Below w.heap.size w ((w.alloc o1).alloc o2)) := Lib.hid fun o1 o2 => by
    have hb := (below_one w o1).trans ((below_one (w.alloc o1) o2).mono (below_one w o1).size)
    exact ⟨h.below hb, hb⟩
  have HX : Hid (∀ t1 o2, Box4 ((w.alloc (Obj.cells #[.int .i64 kd, .int .i64 it, .string tx, .slice x ws.length c] t1)).alloc o2) w.heap.size (.int .i64 kd) (.int .i64 it) (.string tx) (.slice x ws.length c)) := Lib.hid fun t1 o2 => (box4_new w _ _ _ _ t1).below (below_one _ _)
  have HZ : Hid (∀ o1 t2, Box4 ((w.alloc o1).alloc (Obj.cells #[.int .i64 0, .int .i64 0, .string ⟨#[]⟩, .slice none 0 0] t2)) (w.heap.size + 1) (.int .i64 0) (.int .i64 0) (.string ⟨#[]⟩) (.slice none 0 0)) := Lib.hid fun o1 t2 => by
    have := box4_new (w.alloc o1) (.int .i64 0) (.int .i64 0) (.string ⟨#[]⟩) (.slice none 0 0) t2
    simpa using this
  have HF : Hid (∀ w2 w3 z cap a b c d e, Below w.heap.size w w2 → w2.heap.size = w.heap.size + 2 → OwnX w2 w3 (.slice z n cap) ws → (((((w3.setCell ⟨w.heap.size, 3, none⟩ a).setCell ⟨w.heap.size + 1, 0, none⟩ b).setCell ⟨w.heap.size + 1, 1, none⟩ c).setCell ⟨w.heap.size + 1, 2, none⟩ d).setCell ⟨w.heap.size + 1, 3, none⟩ e).ownsRow w.heap.size 9 1 (.slice z n cap) n (ws.map Value.string) ∧ Below w.heap.size w (((((w3.setCell ⟨w.heap.size, 3, none⟩ a).setCell ⟨w.heap.size + 1, 0, none⟩ b).setCell ⟨w.heap.size + 1, 1, none⟩ c).setCell ⟨w.heap.size + 1, 2, none⟩ d).setCell ⟨w.heap.size + 1, 3, none⟩ e)) := Lib.hid fun w2 w3 z cap a b c d e h1 h2 h3 => by
    have h4 := h3.own
    rw [HN.out] at h4
    exact five_cells w w3 w.heap.size a b c d e (h1.trans (h3.below.mono h1.size)) (Nat.le_refl _) (by omega) h4
  unfold argV
  simp only
  rw [hn] at hl HX ⊢
  clear h hn
  go_enter Tryz.func36, Tryz.ntmps36
  go_wp2_with (at_builtin; refine append0 rfl _ _ rfl (HB.out _ _).1 HN.out rfl rfl (by omega) ?_; intro z cap w3 ho; obtain ⟨c0, c1, c2, c3, f0, f1, f2, f3⟩ := (HX.out _ _).below ho.below; obtain ⟨d0, d1, d2, d3, g0, g1, g2, g3⟩ := (HZ.out _ _).below ho.below; have HO := Lib.hid (fun a b c d e => HF.out _ _ _ _ a b c d e (HB.out _ _).2 (by simp) ho); clear ho)
  obtain ⟨o1, o2⟩ := HO.out (.slice z n cap) (.int .i64 kd) (.int .i64 it) (.string tx) (.slice z n cap)
  exact bodyPost_ret (v := .agg #[.int .i64 kd, .int .i64 it, .string tx, .slice z n cap]) (by simp [results, Tryz.results36, go_sem, d0, d1, d2, d3]) rfl ⟨z, cap, rfl, o1, o2⟩
end Go.Proofs.YtopghlnoklajkaaGreatDoor
