/-
  KeyAdds.
-/
import Derived.Test.YtbgoooljkdjjhaaGreatDoorQKeyAdd
import Derived.Test.YtbgoooljkdjjhaaGreatDoorQBut
namespace Go.Proofs.YtbgoooljkdjjhaaGreatDoor
open Go.ChangeShapes Go.WideShapes Go.ChangeAt Go.RowKit

/-- A set that stays, or was turned. -/
def Added (w : World) (S : Nat) (xs : List KeyV) (w' : World) : Prop := (∃ x c, SetAt w' S x c xs ∧ (w'.cell? ⟨S, 0, none⟩ = w.cell? ⟨S, 0, none⟩ ∨ ∀ b off, x = some ⟨b, off, none⟩ → w.heap.size ≤ b)) ∧ But S w w'

theorem setAt_put {w' : World} {S g c : Nat} {x : Option Addr} {c0 : Nat} {xs ys : List KeyV} (h : SetAt w' S x c0 xs) (hk : Keys w' (some ⟨g, 0, none⟩) ys) (hg : S ≠ g) (hc : ys.length ≤ c) (hn : ys ≠ []) : SetAt (w'.setCell ⟨S, 0, none⟩ (.slice (some ⟨g, 0, none⟩) ys.length c)) S (some ⟨g, 0, none⟩) c ys := by
  have o : ∀ j, (w'.setCell ⟨S, 0, none⟩ (.slice (some ⟨g, 0, none⟩) ys.length c)).cell? ⟨g, j, none⟩ = w'.cell? ⟨g, j, none⟩ := fun j => World.cell?_setCell_other _ _ _ _ (fun e => hg (by injection e))
  refine ⟨World.cell?_setCell_same _ _ _ h.cell, fun i hi => ?_, hc, fun e => absurd e hn, by rw [World.frozen?_setCell]; exact h.free⟩
  obtain ⟨b, e, hl, c0, c1, c2, c3, c4, c5⟩ := hk i hi
  have eb : g = b := by simpa using e
  subst eb
  exact ⟨g, rfl, by simpa using hl, by rw [o]; exact c0, by rw [o]; exact c1, by rw [o]; exact c2, by rw [o]; exact c3, by rw [o]; exact c4, by rw [o]; exact c5⟩
theorem keys_new (w : World) (k : KeyV) (t : TypeId) : Keys (w.alloc (Obj.cells #[.string k.name, .int .i64 k.kind, .string k.dflt, .int .i64 k.least, .int .i64 k.most, .string k.letter] t)) (some ⟨w.heap.size, 0, none⟩) [k] := by
  obtain ⟨c0, c1, c2, c3, c4, c5, _⟩ := box6_new w k t
  intro i hi
  obtain rfl : i = 0 := by simpa using hi
  exact ⟨w.heap.size, rfl, by simp, c0, c1, c2, c3, c4, c5⟩
/-- An insertion into whatever row. -/
theorem insert_any (xs : List KeyV) (k : KeyV) (i g : Nat) (x : Option Addr) (w : World) (hx : Keys w x xs) (h0 : xs = [] → x = none) (hg : Keys w (some ⟨g, 0, none⟩) [k]) (hi : i ≤ xs.length) (hn : xs.length ≤ 999999) :
    Calls Tryz.prog 60 #[.slice x xs.length xs.length, .int .i64 i, .slice (some ⟨g, 0, none⟩) 1 1] w (InsRes w (insK xs i k)) := by
  have hgl : g < w.heap.size := by
    obtain ⟨b, e, hl, _⟩ := hg 0 (Nat.zero_lt_one)
    have eb : g = b := by simpa using e
    omega
  rcases Nat.eq_zero_or_pos xs.length with h1 | h1
  · have e := List.eq_nil_of_length_eq_zero h1
    subst e
    obtain rfl := h0 rfl
    obtain rfl : i = 0 := by simpa using hi
    exact insert_nil k g w hg
  · obtain ⟨b, rfl, hbl, _⟩ := hx 0 h1
    rcases Nat.lt_or_ge i xs.length with h2 | h2
    · exact insert_mid xs k i b g w hx hg hbl hgl h2 hn
    · obtain rfl : i = xs.length := by omega
      have h := insert_end xs k b g w hx hg h1 hn
      rw [show insK xs xs.length k = xs ++ [k] by unfold insK; simp]
      exact h

theorem Box6.other {w : World} {R S : Nat} {k : KeyV} (h : Box6 w R k) (hn : S ≠ R) (u : Value) : Box6 (w.setCell ⟨S, 0, none⟩ u) R k := by
  have c : ∀ j, (w.setCell ⟨S, 0, none⟩ u).cell? ⟨R, j, none⟩ = w.cell? ⟨R, j, none⟩ := fun j => World.cell?_setCell_other _ _ _ _ (fun e => hn (by injection e))
  exact ⟨by rw [c]; exact h.c0, by rw [c]; exact h.c1, by rw [c]; exact h.c2, by rw [c]; exact h.c3, by rw [c]; exact h.c4, by rw [c]; exact h.c5, fun j hj => by rw [World.frozen?_setCell]; exact h.fz j hj⟩
theorem add_fin {w w5 w6 : World} {S g c6 c : Nat} {x : Option Addr} {xs ys : List KeyV} {i : Nat} {k : KeyV} {o : Obj} (hk : ys = insK xs i k) (hs : SetAt w6 S x c xs) (h6 : Keys w6 (some ⟨g, 0, none⟩) (insK xs i k)) (hg : (w5.alloc o).heap.size ≤ g) (hc : (insK xs i k).length ≤ c6)
    (hb5 : Below w.heap.size w w5) (hS : S < w5.heap.size) (hb : Below (w5.alloc o).heap.size (w5.alloc o) w6) : Added w S ys (w6.setCell ⟨S, 0, none⟩ (.slice (some ⟨g, 0, none⟩) (insK xs i k).length c6)) := by
  subst hk
  have h5 : w5.heap.size ≤ (w5.alloc o).heap.size := (below_one w5 o).size
  exact ⟨⟨_, _, setAt_put hs h6 (by omega) hc (by unfold insK; simp), .inr fun b off e => by
    obtain ⟨rfl, _⟩ : g = b ∧ 0 = off := by simpa using e
    exact Nat.le_trans hb5.size (Nat.le_trans h5 hg)⟩, (But.of_below ((hb5.trans ((below_one w5 o).mono hb5.size)).trans (hb.mono (Nat.le_trans hb5.size h5)))).setCell 0 _⟩
set_option maxHeartbeats 3200000 in
set_option maxRecDepth 100000 in
theorem add_any (xs : List KeyV) (k : KeyV) (S : Nat) (x : Option Addr) (c : Nat) (w : World) (h : SetAt w S x c xs) (hs : Sorted xs) (hl : xs.length ≤ 64) (hT : Tab w) (hU : Units w) (hM : MaxI w) (h1 : k.name.size ≤ 4294967280) (h2 : k.dflt.size ≤ 4294967280) (h3 : k.letter.size ≤ 4294967280) :
    Calls Tryz.prog 35 #[.pointer (some ⟨S, 0, none⟩), kAgg k] w fun e w' => e = .returned (.int .i64 (addE xs k)) ∧ Added w S (addK xs k) w' := by
  have HS := Lib.hid h
  have HP : Hid (∀ w1, Below w.heap.size w w1 → Calls Tryz.prog 56 #[.pointer (some ⟨S, 0, none⟩), .string k.name] w1 (FoundRes xs k.name w1)) := Lib.hid fun w1 hb => place_any xs k.name S x c w1 (h.below hb) (hs.mono _) (by omega)
  have HL : Hid (∀ w1, Below w.heap.size w w1 → Calls Tryz.prog 57 #[.pointer (some ⟨S, 0, none⟩), .string k.letter] w1 fun e w' => e = .returned (oAgg (letterK xs k.letter)) ∧ Below w1.heap.size w1 w') := Lib.hid fun w1 hb => letter_any xs k.letter S x c w1 (h.below hb) (by omega)
  have HF : Hid (∀ w1, Below w.heap.size w w1 → Calls Tryz.prog 58 #[kAgg k] w1 fun e w' => e = .returned (.bool (formK k)) ∧ Below w1.heap.size w1 w') := Lib.hid fun w1 hb => hasForm_any k w1 (hT.below hb) (Nat.le_trans h1 (by decide)) (Nat.le_trans h3 (by decide))
  have HD : Hid (∀ w1, Below w.heap.size w w1 → Calls Tryz.prog 59 #[kAgg k] w1 fun e w' => e = .returned (.bool (dfltK k)) ∧ Below w1.heap.size w1 w') := Lib.hid fun w1 hb => dflt_any k w1 (hT.below hb) (hU.below hb) (hM.below hb) (Nat.le_trans h2 (by decide))
  have HC : Hid (∀ w1, Calls Tryz.prog 62 #[kAgg k] w1 fun e w' => e = .returned (kAgg k) ∧ Below w1.heap.size w1 w') := Lib.hid fun w1 => copied_any k w1 (Nat.le_trans h1 (by decide)) (Nat.le_trans h2 (by decide)) (Nat.le_trans h3 (by decide))
  have HW : Hid (∀ o, Below w.heap.size w (w.alloc o)) := Lib.hid (below_one w)
  obtain ⟨nm, kd, dl, a, b, le⟩ := k
  unfold kAgg at HF HD HC ⊢
  simp only at HP HL HF HD HC ⊢
  obtain ⟨E, hE⟩ : ∃ E, addE xs ⟨nm, kd, dl, a, b, le⟩ = E := ⟨_, rfl⟩
  obtain ⟨ys, hys⟩ : ∃ ys, addK xs ⟨nm, kd, dl, a, b, le⟩ = ys := ⟨_, rfl⟩
  have HEE := Lib.hid hE
  have HYS := Lib.hid hys
  rw [hE, hys]
  clear h hT hU hM h1 h2 h3 hE hys
  go_enter Tryz.func35, Tryz.ntmps35
  go_wp2_with fail
  refine (HP.out _ (HW.out _)).mono ?_
  rintro e w1 ⟨i, hpi, rfl, hb1⟩
  have HX1 := Lib.hid ((box6_new w ⟨nm, kd, dl, a, b, le⟩ _).below hb1)
  have HB1 := Lib.hid ((HW.out _).trans (hb1.mono (HW.out _).size))
  have HPI := Lib.hid hpi
  obtain ⟨F, hF⟩ : ∃ F, (decide (i < xs.length) && decide (cmpAt xs nm i = 0)) = F := ⟨_, rfl⟩
  have HFF : Hid (hasK xs nm = F) := Lib.hid ((found_is hs hpi).symm.trans hF)
  rw [hF]
  have c5 : w1.cell? ⟨w.heap.size, 5, none⟩ = some (.string le) := HX1.out.c5
  clear hb1 hpi hF HP
  go_wp2_with fail
  refine (HL.out _ HB1.out).mono ?_
  rintro e w2 ⟨rfl, hb2⟩
  clear c5
  have HX2 : Hid (∀ o, Box6 (w2.alloc o) w.heap.size ⟨nm, kd, dl, a, b, le⟩) := Lib.hid fun o => (HX1.out.below hb2).below (below_one w2 o)
  have HB2 : Hid (∀ o, Below w.heap.size w (w2.alloc o)) := Lib.hid fun o => (HB1.out.trans (hb2.mono HB1.out.size)).trans ((below_one w2 o).mono (Nat.le_trans HB1.out.size hb2.size))
  obtain ⟨r, hr⟩ : ∃ r, letterK xs le = r := ⟨_, rfl⟩
  have HR := Lib.hid hr
  rw [hr]
  unfold oAgg kAgg
  obtain ⟨G, hG⟩ : ∃ G, r.isSome = G := ⟨_, rfl⟩
  have HG := Lib.hid hG
  rw [hG]
  clear hb2 hr hG HL HX1 HB1
  have c0 : ∀ o, (w2.alloc o).cell? ⟨w.heap.size, 0, none⟩ = some (.string nm) := fun o => (HX2.out o).c0
  have c1 : ∀ o, (w2.alloc o).cell? ⟨w.heap.size, 1, none⟩ = some (.int .i64 kd) := fun o => (HX2.out o).c1
  have c2 : ∀ o, (w2.alloc o).cell? ⟨w.heap.size, 2, none⟩ = some (.string dl) := fun o => (HX2.out o).c2
  have c3 : ∀ o, (w2.alloc o).cell? ⟨w.heap.size, 3, none⟩ = some (.int .i64 a) := fun o => (HX2.out o).c3
  have c4 : ∀ o, (w2.alloc o).cell? ⟨w.heap.size, 4, none⟩ = some (.int .i64 b) := fun o => (HX2.out o).c4
  have c5 : ∀ o, (w2.alloc o).cell? ⟨w.heap.size, 5, none⟩ = some (.string le) := fun o => (HX2.out o).c5
  go_wp2_with fail
  refine (HF.out _ (HB2.out _)).mono ?_
  rintro e w3 ⟨rfl, hb3⟩
  clear c0 c1 c2 c3 c4 c5
  have HX3 := Lib.hid ((HX2.out _).below hb3)
  have HB3 := Lib.hid ((HB2.out _).trans (hb3.mono (HB2.out _).size))
  obtain ⟨rf, hrf⟩ : ∃ rf, formK ⟨nm, kd, dl, a, b, le⟩ = rf := ⟨_, rfl⟩
  have HRF := Lib.hid hrf
  rw [hrf]
  clear hb3 hrf HF HX2 HB2
  cases rf with
  | false =>
    have HE : Hid (E = 50 ∧ Added w S ys w3) := Lib.hid (by
      have he : addE xs ⟨nm, kd, dl, a, b, le⟩ = 50 := by unfold addE; rw [if_pos HRF.out]
      refine ⟨HEE.out.symm.trans he, ?_⟩
      rw [← HYS.out]
      unfold addK
      rw [he, if_neg (by decide)]
      exact ⟨⟨x, c, HS.out.below HB3.out, .inl (HB3.out.cell (p := ⟨S, 0, none⟩) (lt_of_cell HS.out.cell))⟩, But.of_below HB3.out⟩)
    go_wp2
    go_ret
    exact ⟨by rw [HE.out.1]; first | done | rfl, HE.out.2⟩
  | true =>
    have c0 : w3.cell? ⟨w.heap.size, 0, none⟩ = some (.string nm) := HX3.out.c0
    have c1 : w3.cell? ⟨w.heap.size, 1, none⟩ = some (.int .i64 kd) := HX3.out.c1
    have c2 : w3.cell? ⟨w.heap.size, 2, none⟩ = some (.string dl) := HX3.out.c2
    have c3 : w3.cell? ⟨w.heap.size, 3, none⟩ = some (.int .i64 a) := HX3.out.c3
    have c4 : w3.cell? ⟨w.heap.size, 4, none⟩ = some (.int .i64 b) := HX3.out.c4
    have c5 : w3.cell? ⟨w.heap.size, 5, none⟩ = some (.string le) := HX3.out.c5
    go_wp2_with fail
    refine (HD.out _ HB3.out).mono ?_
    rintro e w4 ⟨rfl, hb4⟩
    clear c0 c1 c2 c3 c4 c5
    have HX4 := Lib.hid (HX3.out.below hb4)
    have HB4 := Lib.hid (HB3.out.trans (hb4.mono HB3.out.size))
    obtain ⟨rd, hrd⟩ : ∃ rd, dfltK ⟨nm, kd, dl, a, b, le⟩ = rd := ⟨_, rfl⟩
    have HRD := Lib.hid hrd
    rw [hrd]
    clear hb4 hrd HD HX3 HB3
    have HST : Hid (E ≠ 0 → Added w S ys w4) := Lib.hid fun he => by
      rw [← HYS.out]
      unfold addK
      rw [HEE.out, if_neg he]
      exact ⟨⟨x, c, HS.out.below HB4.out, .inl (HB4.out.cell (p := ⟨S, 0, none⟩) (lt_of_cell HS.out.cell))⟩, But.of_below HB4.out⟩
    have HAE : Hid (E = if rd = false then 53 else if F = true then 51 else if G = true then 52 else if 64 ≤ xs.length then 54 else 0) := Lib.hid (by
      rw [← HEE.out]
      unfold addE
      rw [if_neg (by rw [HRF.out]; decide), HRD.out, HFF.out, HR.out, HG.out])
    cases rd with
    | false =>
      rw [if_pos rfl] at HAE
      go_wp2
      go_ret
      exact ⟨by rw [HAE.out]; first | done | rfl, HST.out (by rw [HAE.out]; decide)⟩
    | true =>
      rw [if_neg (by decide)] at HAE
      cases F with
      | true =>
        rw [if_pos rfl] at HAE
        go_wp2
        go_ret
        exact ⟨by rw [HAE.out]; first | done | rfl, HST.out (by rw [HAE.out]; decide)⟩
      | false =>
        rw [if_neg (by decide)] at HAE
        cases G with
        | true =>
          rw [if_pos rfl] at HAE
          go_wp2
          go_ret
          exact ⟨by rw [HAE.out]; first | done | rfl, HST.out (by rw [HAE.out]; decide)⟩
        | false =>
          rw [if_neg (by decide)] at HAE
          have HS4 := Lib.hid (HS.out.below HB4.out)
          have s0 : w4.cell? ⟨S, 0, none⟩ = some (.slice x xs.length c) := HS4.out.cell
          by_cases hm : 64 ≤ xs.length
          · have q1 : (64 : Int) ≤ (xs.length : Int) := by omega
            rw [if_pos hm] at HAE
            clear hm
            go_wp2
            go_ret
            exact ⟨by rw [HAE.out]; first | done | rfl, HST.out (by rw [HAE.out]; decide)⟩
          · have q1 : ¬ (64 : Int) ≤ (xs.length : Int) := by omega
            rw [if_neg hm] at HAE
            have hxl : xs.length ≤ 999999 := by omega
            have HAK : Hid (ys = insK xs i ⟨nm, kd, dl, a, b, le⟩) := Lib.hid (by
              rw [← HYS.out]
              unfold addK
              rw [HEE.out, HAE.out, if_pos rfl, place_one (posK_is (hs.mono _)) HPI.out])
            clear hm HST
            have c0 : w4.cell? ⟨w.heap.size, 0, none⟩ = some (.string nm) := HX4.out.c0
            have c1 : w4.cell? ⟨w.heap.size, 1, none⟩ = some (.int .i64 kd) := HX4.out.c1
            have c2 : w4.cell? ⟨w.heap.size, 2, none⟩ = some (.string dl) := HX4.out.c2
            have c3 : w4.cell? ⟨w.heap.size, 3, none⟩ = some (.int .i64 a) := HX4.out.c3
            have c4 : w4.cell? ⟨w.heap.size, 4, none⟩ = some (.int .i64 b) := HX4.out.c4
            have c5 : w4.cell? ⟨w.heap.size, 5, none⟩ = some (.string le) := HX4.out.c5
            have HIL : Hid (i ≤ xs.length) := Lib.hid (And.left (show i ≤ xs.length ∧ _ from HPI.out))
            have HSR : Hid (S ≠ w.heap.size) := Lib.hid (by have := lt_of_cell HS.out.cell; omega)
            have HX5 := HX4
            have hf4 : w4.frozen? ⟨S, 0, none⟩ = false := HS4.out.free
            clear HX4
            go_wp2_with fail
            go_region_law (first
                | (go_simp; (with_reducible refine (clip_any x _ c _ HS4.out.room).mono ?_); rintro e w' ⟨rfl, rfl⟩; dsimp only)
                | (go_simp; (with_reducible refine (HC.out _).mono ?_); rintro e w5 ⟨rfl, hb5⟩; have hs5 := HS4.out.below ((below_drewN w4 1).trans hb5); have HS5 := Lib.hid hs5; have hx5 := HX5.out.below ((below_drewN w4 1).trans hb5); have HX6 := Lib.hid hx5; have p0 : ∀ o, (w5.alloc o).cell? ⟨w.heap.size, 0, none⟩ = some (.string nm) := fun o => (HX6.out.below (below_one w5 o)).c0; have p1 : ∀ o, (w5.alloc o).cell? ⟨w.heap.size, 1, none⟩ = some (.int .i64 kd) := fun o => (HX6.out.below (below_one w5 o)).c1; have p2 : ∀ o, (w5.alloc o).cell? ⟨w.heap.size, 2, none⟩ = some (.string dl) := fun o => (HX6.out.below (below_one w5 o)).c2; have p3 : ∀ o, (w5.alloc o).cell? ⟨w.heap.size, 3, none⟩ = some (.int .i64 a) := fun o => (HX6.out.below (below_one w5 o)).c3; have p4 : ∀ o, (w5.alloc o).cell? ⟨w.heap.size, 4, none⟩ = some (.int .i64 b) := fun o => (HX6.out.below (below_one w5 o)).c4; have p5 : ∀ o, (w5.alloc o).cell? ⟨w.heap.size, 5, none⟩ = some (.string le) := fun o => (HX6.out.below (below_one w5 o)).c5; have z0 := hs5.cell; have zf := hs5.free; obtain ⟨d0, d1, d2, d3, d4, d5, _⟩ := hx5; have HB5 := Lib.hid (HB4.out.trans (((below_drewN w4 1).trans hb5).mono HB4.out.size)); have HK5 : Hid (∀ o, Keys (w5.alloc o) x xs) := Lib.hid fun o => hs5.keys.below (below_one w5 o); dsimp only)
                | (go_simp; (with_reducible refine (insert_any xs ⟨nm, kd, dl, a, b, le⟩ i w5.heap.size x _ (HK5.out _) (fun e => (HS5.out.none_ e).1) (keys_new w5 ⟨nm, kd, dl, a, b, le⟩ _) HIL.out hxl).mono ?_); rintro e w6 ⟨g, c6, rfl, hg6, hc6, hk6, hb6⟩; have hs6 := (HS5.out.below (below_one w5 _)).below hb6; have hx6 := (HX6.out.below (below_one w5 _)).below hb6; have y0 := hs6.cell; have yf := hs6.free; obtain ⟨u0, u1, u2, u3, u4, u5, _⟩ := hx6.other HSR.out (.slice (some ⟨g, 0, none⟩) (insK xs i ⟨nm, kd, dl, a, b, le⟩).length c6); obtain ⟨e0, e1, e2, e3, e4, e5, _⟩ := hx6; have HFIN := Lib.hid (add_fin HAK.out hs6 hk6 hg6 hc6 HB5.out (lt_of_cell z0) hb6); dsimp only))
            all_goals
              go_wp2
              go_ret
              exact ⟨by rw [HAE.out]; first | done | rfl, HFIN.out⟩
end Go.Proofs.YtbgoooljkdjjhaaGreatDoor
