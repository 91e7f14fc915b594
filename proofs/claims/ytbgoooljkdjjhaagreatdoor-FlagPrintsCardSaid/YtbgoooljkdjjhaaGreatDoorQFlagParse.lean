/-
  FlagParse.
-/
import Derived.Test.YtbgoooljkdjjhaaGreatDoorQFlagNew
import Derived.Laws.EntriesVeiled
namespace Go.Proofs.YtbgoooljkdjjhaaGreatDoor
open Go.ChangeShapes Go.WideShapes Go.ChangeAt Go.RowKit

/-- What is taken at place k, the reader behind it. -/
def TookAt (B : Nat) (b : RB) (w0 : World) (T : Nat → Option Told) (k : Nat) (W : World) : Prop := ∃ t, T k = some t ∧ At B b w0 W (min (k + 1) b.args.length) t
/-- How much is left to do. -/
def roundsLeft (n : Nat) (v o : Value) : Nat := match v, o with | .int _ i, .bool true => n + 1 - i.toNat | _, _ => 0
/-- The box that the result lies in, written whole. -/
theorem box3 (W : World) (z : Nat) (t : TypeId) (a b c : Value) (h : W.heap[z]? = some (Obj.cells #[.slice none 0 0, .slice none 0 0, .bool false] t)) :
    (W.cell? ⟨z, 0, none⟩ = some (.slice none 0 0) ∧ W.cell? ⟨z, 1, none⟩ = some (.slice none 0 0) ∧ W.cell? ⟨z, 2, none⟩ = some (.bool false) ∧ ∀ j, W.frozen? ⟨z, j, none⟩ = false) ∧
    ((((W.setCell ⟨z, 0, none⟩ a).setCell ⟨z, 1, none⟩ b).setCell ⟨z, 2, none⟩ c).cell? ⟨z, 0, none⟩ = some a ∧ (((W.setCell ⟨z, 0, none⟩ a).setCell ⟨z, 1, none⟩ b).setCell ⟨z, 2, none⟩ c).cell? ⟨z, 1, none⟩ = some b ∧ (((W.setCell ⟨z, 0, none⟩ a).setCell ⟨z, 1, none⟩ b).setCell ⟨z, 2, none⟩ c).cell? ⟨z, 2, none⟩ = some c) ∧
    ∀ B, B ≤ z → ∀ w, Below B w W → Below B w (((W.setCell ⟨z, 0, none⟩ a).setCell ⟨z, 1, none⟩ b).setCell ⟨z, 2, none⟩ c) := by
  have h3 : (((W.setCell ⟨z, 0, none⟩ a).setCell ⟨z, 1, none⟩ b).setCell ⟨z, 2, none⟩ c).heap[z]? = some (Obj.cells #[a, b, c] t) := by
    simp [World.setCell, Array.getElem?_modify, h]
  refine ⟨⟨by rw [cell_of_row W z _ _ _ _ h]; rfl, by rw [cell_of_row W z _ _ _ _ h]; rfl, by rw [cell_of_row W z _ _ _ _ h]; rfl, fun j => by simp [World.frozen?, h]⟩, ⟨by rw [cell_of_row _ z _ _ _ _ h3]; rfl, by rw [cell_of_row _ z _ _ _ _ h3]; rfl, by rw [cell_of_row _ z _ _ _ _ h3]; rfl⟩, fun B hB w hb => ?_⟩
  exact ((hb.setCell (p := ⟨z, 0, none⟩) hB a).setCell (p := ⟨z, 1, none⟩) hB b).setCell (p := ⟨z, 2, none⟩) hB c
theorem own_box3 {W : World} {z B size n : Nat} {e t : TypeId} {v : Value} {xs : List Value} (a b c : Value) (h : W.heap[z]? = some (Obj.cells #[.slice none 0 0, .slice none 0 0, .bool false] t)) (ho : W.ownsRow B e size v n xs) (hne : t ≠ e) :
    (((W.setCell ⟨z, 0, none⟩ a).setCell ⟨z, 1, none⟩ b).setCell ⟨z, 2, none⟩ c).ownsRow B e size v n xs :=
  ho.kept (row := some z) ⟨rfl, rfl, rfl, by simp [World.setCell], fun q _ hq => by
    have hq' : z ≠ q := fun e => hq (by rw [e])
    have k : ∀ (W : World) (j : Nat) (u : Value), (W.setCell ⟨z, j, none⟩ u).heap[q]? = W.heap[q]? := fun W j u => Below.heap_setCell _ ⟨z, j, none⟩ _ _ (fun e => hq' e.symm)
    rw [k, k, k]⟩ (.inr (own_ne ho h hne))
theorem took_any (B : Nat) (b : RB) (w0 : World) (T : Nat → Option Told) (hl : b.args.length ≤ 2147483647) (W : World) (k : Nat) (t : Told) (ht : T k = some t) (hat : At B b w0 W k t) :
    Calls Tryz.prog 72 #[.pointer (some ⟨b.N, 0, none⟩), .pointer (some ⟨b.A, 0, none⟩)] W fun e w' => (∃ (a : ByteArray) (i : Int) (o : Bool), e = .returned (.tuple #[.string a, .int .i64 i, .bool o]) ∧ o = decide (k < b.args.length) ∧ ∀ hm : k < b.args.length, a = b.args[k] ∧ i = k) ∧ TookAt B b w0 T k w' := by
  obtain ⟨gv, rv, hr, hb, hB⟩ := hat
  have hle := hr.le
  simp only at hle
  by_cases hlt : k < b.args.length
  · refine (take_yes B b W _ hr hlt (by omega)).mono ?_
    rintro e w' ⟨rfl, rfl⟩
    refine ⟨⟨_, _, _, rfl, (decide_eq_true hlt).symm, fun _ => ⟨rfl, rfl⟩⟩, t, ht, gv, rv, ?_, hb.setCell (p := ⟨b.N, 0, none⟩) hr.lN _, by simpa [World.setCell] using hB⟩
    rw [Nat.min_eq_left (by omega)]
    exact hr.next hlt
  · have he : k = b.args.length := by omega
    refine (take_no B b W _ hr he).mono ?_
    rintro e w' ⟨rfl, rfl⟩
    refine ⟨⟨_, _, _, rfl, (decide_eq_false hlt).symm, fun hm => absurd hm hlt⟩, t, ht, gv, rv, ?_, hb, hB⟩
    rw [Nat.min_eq_right (by omega)]
    rw [he] at hr
    exact hr
set_option maxHeartbeats 3200000 in
set_option maxRecDepth 100000 in
theorem parse_by (args : List ByteArray) (S : Nat) (x : Option Addr) (c : Nat) (w : World) (T : Nat → Option Told) (E : Int → Nat → Prop) (h0 : T 0 = some ⟨[], [], false⟩) (hl : args.length ≤ 2147483647)
    (htx : ∀ k (h : k < args.length), ∃ g off, x = some ⟨g, off, none⟩ ∧ g < w.heap.size ∧ w.cell? ⟨g, off + k, none⟩ = some (.string args[k]))
    (hst : ∀ w0, Below w.heap.size w w0 → StepOk args S x c T E w0) :
    Calls Tryz.prog 30 #[.pointer (some ⟨S, 0, none⟩), .slice x args.length c] w fun e w' =>
      ((∃ t gv rv, T args.length = some t ∧ e = .returned (.tuple #[.agg #[gv, rv, .bool t.hp], .int .i64 0, .int .i64 0]) ∧ w'.ownsRow (w.heap.size + 1) 27 3 gv t.gs.length (gFlat t.gs) ∧ w'.ownsRow (w.heap.size + 1) 9 1 rv t.rs.length (t.rs.map Value.string)) ∨
       (∃ n k, n ≠ 0 ∧ E n k ∧ e = .returned (.tuple #[.agg #[.slice none 0 0, .slice none 0 0, .bool false], .int .i64 n, .int .i64 (k : Nat)]))) ∧ Below w.heap.size w w' := by
  have HB0 : Hid (∀ o, Below w.heap.size w (w.alloc o)) := Lib.hid (below_one w)
  have HTK : Hid (∀ o, Calls Tryz.prog 54 #[.slice x args.length c] (w.alloc o) fun e w' =>
      ∃ A N, e = .returned (.func (.func 72) #[] #[.pointer (some ⟨N, 0, none⟩), .pointer (some ⟨A, 0, none⟩)]) ∧
        At (w.heap.size + 1) ⟨w'.heap.size, A, N, S, x, c, args⟩ (w.alloc o) (w'.alloc (Obj.cells #[.pointer (some ⟨S, 0, none⟩), .func (.func 72) #[] #[.pointer (some ⟨N, 0, none⟩), .pointer (some ⟨A, 0, none⟩)], .slice none 0 0, .slice none 0 0, .bool false] 87)) 0 ⟨[], [], false⟩) := Lib.hid fun o => by
    refine (taker_any x args.length c (w.alloc o)).mono ?_
    rintro e w' ⟨rfl, hw⟩
    refine ⟨_, _, rfl, ?_⟩
    have h := rdf_new args S x c (w.alloc o) w' _ _ rfl rfl (fun k hk => by
      obtain ⟨g, off, e1, e2, e3⟩ := htx k hk
      exact ⟨g, off, e1, by simp; omega, by rw [(HB0.out o).cell e2]; exact e3⟩) hw
    simpa using h
  have HBX : Hid (∀ o W, Below (w.heap.size + 1) (w.alloc o) W → W.heap[w.heap.size]? = some o ∧ Below w.heap.size w W) := Lib.hid fun o W hb => by
    have h1 := hb.block w.heap.size (Nat.lt_succ_self _)
    refine ⟨h1.trans ?_, (HB0.out o).trans (hb.mono (Nat.le_succ _))⟩
    show (w.heap.push o)[w.heap.size]? = some o
    exact Array.getElem?_push_size
  have hl2 := hl
  obtain ⟨n, hn⟩ : ∃ n, args.length = n := ⟨_, rfl⟩
  have HN := Lib.hid hn
  have H00 := Lib.hid h0
  rw [hn] at hl2
  have HST := Lib.hid fun o => hst (w.alloc o) (HB0.out o)
  have HTX := Lib.hid hl
  rw [hn] at HTK ⊢
  clear htx h0 hst hl
  go_enter Tryz.func30, Tryz.ntmps30
  go_wp2_with fail
  refine (HTK.out _).mono ?_
  rintro e w1 ⟨A, N, rfl, hat⟩
  have HAT := Lib.hid hat
  obtain ⟨R, hR⟩ : ∃ R, w1.heap.size = R := ⟨_, rfl⟩
  rw [hR] at HAT
  have HTA : Hid (∀ W k t, T k = some t → At (w.heap.size + 1) ⟨R, A, N, S, x, c, args⟩ (w.alloc (Obj.cells #[.slice none 0 0, .slice none 0 0, .bool false] 62)) W k t →
      Calls Tryz.prog 72 #[.pointer (some ⟨N, 0, none⟩), .pointer (some ⟨A, 0, none⟩)] W fun e w' => (∃ (a : ByteArray) (i : Int) (o : Bool), e = .returned (.tuple #[.string a, .int .i64 i, .bool o]) ∧ o = decide (k < args.length) ∧ ∀ hm : k < args.length, a = args[k] ∧ i = k) ∧ TookAt (w.heap.size + 1) ⟨R, A, N, S, x, c, args⟩ (w.alloc (Obj.cells #[.slice none 0 0, .slice none 0 0, .bool false] 62)) T k w') :=
    Lib.hid fun W k t ht hat => took_any (w.heap.size + 1) ⟨R, A, N, S, x, c, args⟩ _ T HTX.out W k t ht hat
  have HSR : Hid (∀ W k t, T k = some t → ∀ hk : k < args.length, At (w.heap.size + 1) ⟨R, A, N, S, x, c, args⟩ (w.alloc (Obj.cells #[.slice none 0 0, .slice none 0 0, .bool false] 62)) W (k + 1) t →
      Calls Tryz.prog 55 #[.pointer (some ⟨R, 0, none⟩), .string args[k], .int .i64 k] W fun e w' =>
        (e = .returned (.int .i64 0) ∧ ∃ k2 t2, k < k2 ∧ k2 ≤ args.length ∧ T k2 = some t2 ∧ At (w.heap.size + 1) ⟨R, A, N, S, x, c, args⟩ (w.alloc (Obj.cells #[.slice none 0 0, .slice none 0 0, .bool false] 62)) w' k2 t2) ∨
        (∃ n, n ≠ 0 ∧ e = .returned (.int .i64 n) ∧ E n k ∧ Below (w.heap.size + 1) (w.alloc (Obj.cells #[.slice none 0 0, .slice none 0 0, .bool false] 62)) w')) :=
    Lib.hid fun W k t ht hk hat => HST.out _ (w.heap.size + 1) ⟨R, A, N, S, x, c, args⟩ W k t rfl rfl rfl rfl (by simp) ht hk hat
  have HCE : Hid (∀ W k t, At (w.heap.size + 1) ⟨R, A, N, S, x, c, args⟩ (w.alloc (Obj.cells #[.slice none 0 0, .slice none 0 0, .bool false] 62)) W k t → W.cell? ⟨R, 1, none⟩ = some (.func (.func 72) #[] #[.pointer (some ⟨N, 0, none⟩), .pointer (some ⟨A, 0, none⟩)])) := Lib.hid fun W k t ⟨_, _, hr, _, _⟩ => hr.cells.2.1
  clear hat HTK HST hn
  go_wp2_with fail
  try rw [hR]
  refine (HTA.out _ 0 _ H00.out HAT.out).mono ?_
  rintro e w2 ⟨⟨a, i, o, rfl, ho, ha⟩, hk2⟩
  have HK2 := Lib.hid hk2
  have HA2 := Lib.hid ha
  rw [HN.out] at ho
  clear ha hk2 hR
  go_wp2
  go_loopw [8, 9, 10] (fun u v p wr => ∃ (k : Nat) (a : ByteArray) (i : Int) (o : Bool), u = .string a ∧ v = .int .i64 i ∧ p = .bool o ∧ k ≤ n ∧ o = decide (k < n) ∧ Hid (∀ hm : k < args.length, a = args[k] ∧ i = k) ∧ Hid (TookAt (w.heap.size + 1) ⟨R, A, N, S, x, c, args⟩ (w.alloc (Obj.cells #[.slice none 0 0, .slice none 0 0, .bool false] 62)) T k wr)) (fun _ v p _ => roundsLeft n v p)
  case atStart => exact ⟨0, a, i, o, rfl, rfl, by rw [ho], Nat.zero_le _, ho, HA2, HK2⟩
  case round =>
    clear HK2 HA2 ho
    obtain ⟨k, a, i, o, rfl, rfl, rfl, hkn, ho, HA, HK⟩ := hrel
    by_cases hlt : k < n
    · rw [decide_eq_true hlt] at ho
      subst ho
      have hm : k < args.length := by rw [HN.out]; exact hlt
      obtain ⟨rfl, rfl⟩ := HA.out hm
      obtain ⟨t, ht, hat⟩ := HK.out
      rw [show min (k + 1) (RB.args ⟨R, A, N, S, x, c, args⟩).length = k + 1 from Nat.min_eq_left (by show k + 1 ≤ args.length; omega)] at hat
      have HR2 := Lib.hid (HSR.out wr k t ht hm hat)
      clear hat
      generalize args[k] = ak at HR2
      go_wp2_with fail
      refine HR2.out.mono ?_
      rintro e w3 h3
      rcases h3 with ⟨rfl, k2, t2, hk2, hk2n, ht2, hat2⟩ | ⟨m, hm0, rfl, hE, hb3⟩
      · have e1 := HCE.out _ _ _ hat2
        have HT4 := Lib.hid (HTA.out w3 k2 t2 ht2 hat2)
        clear hat2 HR2
        go_wp2_with fail
        refine HT4.out.mono ?_
        rintro e w4 ⟨⟨a4, i4, o4, rfl, ho4, ha4⟩, hk4⟩
        rw [HN.out] at ho4 hk2n
        have HA4 := Lib.hid ha4
        have HK4 := Lib.hid hk4
        have HO4 := Lib.hid ho4
        clear ha4 hk4 e1 HT4 ho4
        go_wp2
        go_roundw
        case rel => exact ⟨k2, a4, i4, o4, rfl, rfl, rfl, hk2n, HO4.out, HA4, HK4⟩
        case measure =>
          by_cases hx : k2 < n
          · have h1 := HO4.out
            rw [decide_eq_true hx] at h1
            obtain ⟨_, rfl⟩ := HA4.out (by rw [HN.out]; exact hx)
            rw [h1]
            simp [roundsLeft]; omega
          · have h1 := HO4.out
            rw [decide_eq_false hx] at h1
            rw [h1]
            simp [roundsLeft]; omega
      · obtain ⟨hbx, hbw⟩ := HBX.out _ _ hb3
        obtain ⟨⟨b0, b1, b2, bf⟩, ⟨g0, g1, g2⟩, hbl⟩ := box3 w3 w.heap.size _ (.slice none 0 0) (.slice none 0 0) (.bool false) hbx
        have f0 := bf 0
        have f1 := bf 1
        have f2 := bf 2
        have hm1 : (m == 0) = false := by simpa using hm0
        have HEE := Lib.hid hE
        have HBE := Lib.hid (hbl _ (Nat.le_refl _) w hbw)
        clear hb3 HR2 bf hbx hbw hbl HA HK
        go_wp2
        exact bodyPost_ret (v := .tuple #[.agg #[.slice none 0 0, .slice none 0 0, .bool false], .int .i64 m, .int .i64 ((k : Nat) : Int)]) (by simp [results, Tryz.results30, go_sem, g0, g1, g2]) rfl ⟨.inr ⟨m, k, hm0, HEE.out, rfl⟩, HBE.out⟩
    · have hke : k = n := by omega
      subst hke
      rw [decide_eq_false hlt] at ho
      subst ho
      obtain ⟨t, ht, gv, rv, hr, hb, hB⟩ := HK.out
      obtain ⟨gx, gc, rfl⟩ : ∃ gx gc, gv = .slice gx t.gs.length gc := own_form hr.og
      obtain ⟨rx, rc, rfl⟩ : ∃ rx rc, rv = .slice rx t.rs.length rc := own_form hr.orr
      obtain ⟨hbx, hbw⟩ := HBX.out _ _ hb
      obtain ⟨⟨b0, b1, b2, bf⟩, ⟨g0, g1, g2⟩, hbl⟩ := box3 wr w.heap.size _ (.slice gx t.gs.length gc) (.slice rx t.rs.length rc) (.bool t.hp) hbx
      have f0 := bf 0
      have f1 := bf 1
      have f2 := bf 2
      have HE := Lib.hid (And.intro (own_box3 (.slice gx t.gs.length gc) (.slice rx t.rs.length rc) (.bool t.hp) hbx hr.og (by decide)) (And.intro (own_box3 (.slice gx t.gs.length gc) (.slice rx t.rs.length rc) (.bool t.hp) hbx hr.orr (by decide)) (hbl _ (Nat.le_refl _) w hbw)))
      have HT := Lib.hid ht
      obtain ⟨_, _, c2, c3, c4, _⟩ := hr.cells
      simp only at c2 c3 c4
      clear hr hb hB hbx hbw hbl HK HA bf ht
      obtain ⟨tgs, trs, thp⟩ := t
      simp only at *
      obtain ⟨gn, hgn⟩ : ∃ gn, tgs.length = gn := ⟨_, rfl⟩
      obtain ⟨rn, hrn⟩ : ∃ rn, trs.length = rn := ⟨_, rfl⟩
      have HGN := Lib.hid hgn
      have HRN := Lib.hid hrn
      rw [hgn] at c2
      rw [hrn] at c3
      rw [hgn, hrn] at g0 g1 g2 HE
      clear hgn hrn
      go_wp2
      exact bodyPost_ret (v := .tuple #[.agg #[.slice gx gn gc, .slice rx rn rc, .bool thp], .int .i64 0, .int .i64 0]) (by simp [results, Tryz.results30, go_sem, g0, g1, g2]) rfl ⟨.inl ⟨⟨tgs, trs, thp⟩, _, _, HT.out, rfl, by rw [HGN.out]; exact HE.out.1, by rw [HRN.out]; exact HE.out.2.1⟩, HE.out.2.2⟩
end Go.Proofs.YtbgoooljkdjjhaaGreatDoor
