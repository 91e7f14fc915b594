/-
  The walk of IniPrints.
-/
import Derived.Test.YtbpbiakdigjcnaaDoorIniOwn
namespace Go.Proofs.YtbpbiakdigjcnaaDoor
open Go.ChangeShapes Go.WideShapes Go.ChangeAt Go.RowKit

/-- Lines printed, by the program and by the document's own answer: the same. -/
theorem both_print (ls : List LineV) (hn : ls.length ≤ 4294967280) (hF : Fit ls) :
    ∃ (S : ByteArray) (E : Int), (∀ (y : Option Addr) (d : Nat) (W : World), Lns W y ls → Tab W →
      Calls Tryd.prog 14 #[.slice y ls.length d] W (fun e w' => e = .returned (.tuple #[.string S, .int .i64 E]) ∧ Below W.heap.size W w')) ∧
      ∀ (y : Option Addr) (d : Nat) (W : World), Lns W y ls → ls.length ≤ d → Calls Tryd.prog 12 #[.slice y ls.length d] W (fun e w' => e = .returned (.tuple #[.string S, .int .i64 E]) ∧ Below W.heap.size W w') :=
  ⟨_, _, fun y d W hy hT => print_any y d ls W hy hT hn hF, fun y d W hy hd => refPrint_any y d ls W hy hn hd hF⟩
def spLn : LineV := ⟨⟨#[115, 112, 97, 114, 101]⟩, ⟨#[]⟩, 0⟩
theorem spare_sets (ls : List LineV) (h : ls.length < (ls ++ [zLn, zLn]).length) :
    (ls ++ [zLn, zLn]).set ls.length ⟨⟨#[115, 112, 97, 114, 101]⟩, (ls ++ [zLn, zLn])[ls.length].text, (ls ++ [zLn, zLn])[ls.length].num⟩ = ls ++ [spLn, zLn] := by
  rw [List.getElem_append_right (Nat.le_refl _)]
  simp [zLn, spLn]
theorem spare_sets2 (ls : List LineV) (h : ls.length + 1 < (ls ++ [spLn, zLn]).length) :
    (ls ++ [spLn, zLn]).set (ls.length + 1) ⟨⟨#[115, 112, 97, 114, 101]⟩, (ls ++ [spLn, zLn])[ls.length + 1].text, (ls ++ [spLn, zLn])[ls.length + 1].num⟩ = ls ++ [spLn, spLn] := by
  rw [List.getElem_append_right (by omega), List.set_append_right _ _ (by omega)]
  simp [zLn, spLn]
theorem fit_set {ls : List LineV} (h : Fit ls) {k : Nat} {o : LineV} (ho : Fit [o]) : Fit (ls.set k o) := fun l hl => by
  rcases List.mem_or_eq_of_mem_set hl with hl | rfl
  · exact h l hl
  · exact ho _ (List.mem_singleton.2 rfl)
theorem capB_in (n : Nat) : 0 ≤ capB n ∧ capB n ≤ 2147483648 := by unfold capB; omega
theorem capB_le {n : Nat} (h : capB n ≤ 2147483647) : n ≤ 2147483647 := by unfold capB at h; omega
theorem addI_le {a b : Int} (ha : 0 ≤ a) (hb : 0 ≤ b) (h : addI a b ≤ 2147483647) : a ≤ 2147483647 ∧ b ≤ 2147483647 := by rw [addI_cap] at h; omega
theorem row1 (W : World) (o : LineV) (t : TypeId) : Lns (W.alloc (Obj.cells #[.string o.name, .string o.text, .int .i64 o.num] t)) (some ⟨W.heap.size, 0, none⟩) [o] :=
  Lns.of_cells (by simp) fun j u hj => by
    rw [Nat.zero_add, World.cell?_alloc_at _ _ _ _ rfl]
    simpa [flatL, lCells] using hj

/-- The rest of the law, the weight being borne. -/
theorem own_rest (w W : World) (N G : Nat) (ls : List LineV) (hn : ls.length = N) (hG : w.heap.size ≤ G) (hW : Below w.heap.size w W) (hR : RowLn W G (ls ++ [zLn, zLn])) :
    (W.cell? ⟨G, N * 3, none⟩ = some (.string ⟨#[]⟩) ∧ W.frozen? ⟨G, N * 3, none⟩ = false) ∧
    ((W.setCell ⟨G, N * 3, none⟩ (.string ⟨#[115, 112, 97, 114, 101]⟩)).cell? ⟨G, (N + 1) * 3, none⟩ = some (.string ⟨#[]⟩) ∧ (W.setCell ⟨G, N * 3, none⟩ (.string ⟨#[115, 112, 97, 114, 101]⟩)).frozen? ⟨G, (N + 1) * 3, none⟩ = false) ∧
    RowLn ((W.setCell ⟨G, N * 3, none⟩ (.string ⟨#[115, 112, 97, 114, 101]⟩)).setCell ⟨G, (N + 1) * 3, none⟩ (.string ⟨#[115, 112, 97, 114, 101]⟩)) G (ls ++ [spLn, spLn]) ∧
    Below w.heap.size w ((W.setCell ⟨G, N * 3, none⟩ (.string ⟨#[115, 112, 97, 114, 101]⟩)).setCell ⟨G, (N + 1) * 3, none⟩ (.string ⟨#[115, 112, 97, 114, 101]⟩)) := by
  subst hn
  have k1 : ls.length < (ls ++ [zLn, zLn]).length := by simp
  have h1 := hR.name k1 ⟨#[115, 112, 97, 114, 101]⟩
  rw [spare_sets ls k1] at h1
  have k2 : ls.length + 1 < (ls ++ [spLn, zLn]).length := by simp
  have h2 := h1.name k2 ⟨#[115, 112, 97, 114, 101]⟩
  rw [spare_sets2 ls k2] at h2
  have c1 := hR.at0 k1
  have c2 := h1.at0 k2
  refine ⟨⟨?_, hR.frozen _⟩, ⟨?_, h1.frozen _⟩, h2, (hW.setCell (p := ⟨G, _, none⟩) hG _).setCell (p := ⟨G, _, none⟩) hG _⟩
  · rw [c1, List.getElem_append_right (Nat.le_refl _)]; simp [zLn]
  · rw [c2, List.getElem_append_right (by omega)]; simp [zLn]
theorem own_spares (W : World) (N G : Nat) (ls : List LineV) (hn : ls.length = N) (hR : RowLn W G (ls ++ [spLn, spLn])) :
    W.cell? ⟨G, N * 3, none⟩ = some (.string ⟨#[115, 112, 97, 114, 101]⟩) ∧ W.cell? ⟨G, (N + 1) * 3, none⟩ = some (.string ⟨#[115, 112, 97, 114, 101]⟩) ∧ Lns W (some ⟨G, 0, none⟩) ls := by
  subst hn
  have c1 := hR.at0 (k := ls.length) (by simp)
  have c2 := hR.at0 (k := ls.length + 1) (by simp)
  refine ⟨?_, ?_, ?_⟩
  · rw [c1, List.getElem_append_right (Nat.le_refl _)]; simp [spLn]
  · rw [c2, List.getElem_append_right (by omega)]; simp [spLn]
  · have := hR.lns.take ls.length
    rwa [List.take_left] at this
theorem own_put (W : World) (N G k : Nat) (ls : List LineV) (o : LineV) (hn : ls.length = N) (hk : k < N) (hR : RowLn W G (ls ++ [spLn, spLn])) :
    Lns (((W.setCell ⟨G, k * 3, none⟩ (.string o.name)).setCell ⟨G, k * 3 + 1, none⟩ (.string o.text)).setCell ⟨G, k * 3 + 2, none⟩ (.int .i64 o.num)) (some ⟨G, 0, none⟩) (ls.set k o) := by
  subst hn
  have h1 := (hR.put (k := k) (by simp; omega) o).lns.take ls.length
  rw [List.set_append_left _ _ hk] at h1
  rw [List.take_left' (by simp)] at h1
  exact h1

/-- A line in a block that was made ahead of own. -/
theorem own_box {w5 w6 : World} {w8 : World} {b : Nat} {o : LineV} (h : Lns w5 (some ⟨b, 0, none⟩) [o]) (hb : Below w5.heap.size w5 w6) (h8 : Below w5.heap.size w6 w8) : Lns w8 (some ⟨b, 0, none⟩) [o] := fun k hk => by
  obtain ⟨b', off, e, hl, c0, c1, c2⟩ := h k hk
  have hl6 : b' < w6.heap.size := Nat.lt_of_lt_of_le hl hb.size
  refine ⟨b', off, e, Nat.lt_of_lt_of_le hl6 h8.size, ?_, ?_, ?_⟩
  · rw [h8.cell (p := ⟨b', _, none⟩) hl, hb.cell (p := ⟨b', _, none⟩) hl]; exact c0
  · rw [h8.cell (p := ⟨b', _, none⟩) hl, hb.cell (p := ⟨b', _, none⟩) hl]; exact c1
  · rw [h8.cell (p := ⟨b', _, none⟩) hl, hb.cell (p := ⟨b', _, none⟩) hl]; exact c2
theorem box_cells {w : World} {b : Nat} {o : LineV} (h : Lns w (some ⟨b, 0, none⟩) [o]) : w.cell? ⟨b, 0, none⟩ = some (.string o.name) ∧ w.cell? ⟨b, 1, none⟩ = some (.string o.text) ∧ w.cell? ⟨b, 2, none⟩ = some (.int .i64 o.num) := by
  obtain ⟨b', off, ex, _, c0, c1, c2⟩ := h 0 (by simp)
  obtain ⟨rfl, rfl⟩ : b = b' ∧ 0 = off := by simpa using ex
  exact ⟨by simpa using c0, by simpa using c1, by simpa using c2⟩
theorem own_cells (W : World) (N G k : Nat) (ls : List LineV) (hn : ls.length = N) (hk : k < N) (hR : RowLn W G (ls ++ [spLn, spLn])) :
    (∃ a, W.cell? ⟨G, k * 3, none⟩ = some a) ∧ (∃ a, W.cell? ⟨G, k * 3 + 1, none⟩ = some a) ∧ (∃ a, W.cell? ⟨G, k * 3 + 2, none⟩ = some a) ∧ ∀ p, W.frozen? ⟨G, p, none⟩ = false :=
  ⟨⟨_, hR.at0 (k := k) (by simp; omega)⟩, ⟨_, hR.at1 (k := k) (by simp; omega)⟩, ⟨_, hR.at2 (k := k) (by simp; omega)⟩, hR.frozen⟩

set_option maxHeartbeats 3200000 in
set_option maxRecDepth 100000 in
theorem iniPrints_any (x : Option Addr) (c : Nat) (ls : List LineV) (at_ : Int) (o : LineV) (w : World) (hL : Lns w x ls) (hc : ls.length ≤ c) (hm : ls.length ≤ maxLen) (hz : ∀ l ∈ ls, l.name.size ≤ maxLen ∧ l.text.size ≤ maxLen)
    (ho : o.name.size ≤ maxLen ∧ o.text.size ≤ maxLen) (ha : -9223372036854775808 ≤ at_ ∧ at_ ≤ 9223372036854775807) (hT : Tab w) (hI : MaxI w) :
    Calls Tryd.prog 5 #[.slice x ls.length c, .int .i64 at_, .agg #[.string o.name, .string o.text, .int .i64 o.num]] w fun e w' => e = .returned (.bool true) ∧ Below w.heap.size w w' := by
  obtain ⟨N, hN⟩ : ∃ N, ls.length = N := ⟨_, rfl⟩
  obtain ⟨A, hA⟩ : ∃ A, capB (wN ls) = A := ⟨_, rfl⟩
  obtain ⟨B, hB⟩ : ∃ B, capB (wN [o]) = B := ⟨_, rfl⟩
  have hAi := capB_in (wN ls)
  have hBi := capB_in (wN [o])
  have hwo : ∀ W y d, Lns W y [o] → Calls Tryd.prog 11 #[.slice y 1 d] W fun e w' => e = .returned (.int .i64 B) ∧ Below W.heap.size W w' := fun W y d h => by
    have := weight_any y d [o] W h (by simp [maxLen]) (fun l hl => by obtain rfl := List.mem_singleton.1 hl; exact ho)
    rw [hB] at this
    exact this
  have hwl : ∀ W, Below w.heap.size w W → Calls Tryd.prog 11 #[.slice x N c] W fun e w' => e = .returned (.int .i64 A) ∧ Below W.heap.size W w' := fun W h => by
    have := weight_any x c ls W (hL.below h) hm hz
    rw [hA, hN] at this
    exact this
  have HW1 : Hid (∀ t0, Calls Tryd.prog 11 #[.slice x N c] (w.alloc (Obj.cells #[.string o.name, .string o.text, .int .i64 o.num] t0)).drew fun e w2 => e = .returned (.int .i64 A) ∧
      (w2.cell? ⟨w.heap.size, 0, none⟩ = some (.string o.name) ∧ w2.cell? ⟨w.heap.size, 1, none⟩ = some (.string o.text) ∧ w2.cell? ⟨w.heap.size, 2, none⟩ = some (.int .i64 o.num)) ∧
      ∀ t, Calls Tryd.prog 11 #[.slice (some ⟨w2.heap.size, 0, none⟩) 1 1] (w2.alloc (Obj.cells #[.string o.name, .string o.text, .int .i64 o.num] t)) fun e w' => e = .returned (.int .i64 B) ∧ Below w.heap.size w w' ∧ Lns w' (some ⟨w.heap.size, 0, none⟩) [o]) := Lib.hid fun t0 => by
    have b1 := below_one w (Obj.cells #[.string o.name, .string o.text, .int .i64 o.num] t0)
    have r1 := row1 w o t0
    generalize w.alloc (Obj.cells #[.string o.name, .string o.text, .int .i64 o.num] t0) = w1 at b1 r1
    have b2 := b1.trans ((below_drewN w1 1).mono b1.size)
    refine (hwl w1.drew b2).mono ?_
    rintro e w2 ⟨rfl, hb⟩
    have b3 := b2.trans (hb.mono b2.size)
    have r2 := (r1.below (below_drewN w1 1)).below hb
    obtain ⟨b, off, ex, _, c0, c1, c2⟩ := r2 0 (by simp)
    obtain ⟨rfl, rfl⟩ : w.heap.size = b ∧ 0 = off := by simpa using ex
    refine ⟨rfl, ⟨by simpa using c0, by simpa using c1, by simpa using c2⟩, fun t => ?_⟩
    have b4 := below_one w2 (Obj.cells #[.string o.name, .string o.text, .int .i64 o.num] t)
    refine (hwo _ _ 1 (row1 w2 o t)).mono ?_
    rintro e w3 ⟨rfl, hb3⟩
    exact ⟨rfl, (b3.trans (b4.mono b3.size)).trans (hb3.mono (Nat.le_trans b3.size b4.size)), (r2.below b4).below hb3⟩
  have HW2 : Hid (∀ t0 t, Calls Tryd.prog 11 #[.slice x N c] ((w.alloc (Obj.cells #[.string o.name, .string o.text, .int .i64 o.num] t0)).alloc (Obj.cells #[.string o.name, .string o.text, .int .i64 o.num] t)).drew fun e w2 => e = .returned (.int .i64 A) ∧
      Calls Tryd.prog 11 #[.slice (some ⟨w.heap.size + 1, 0, none⟩) 1 1] w2 fun e w' => e = .returned (.int .i64 B) ∧ Below w.heap.size w w' ∧ Lns w' (some ⟨w.heap.size, 0, none⟩) [o]) := Lib.hid fun t0 t => by
    have b1 := below_one w (Obj.cells #[.string o.name, .string o.text, .int .i64 o.num] t0)
    have r1 := row1 w o t0
    have s1 : (w.alloc (Obj.cells #[.string o.name, .string o.text, .int .i64 o.num] t0)).heap.size = w.heap.size + 1 := by simp
    generalize w.alloc (Obj.cells #[.string o.name, .string o.text, .int .i64 o.num] t0) = w1 at b1 r1 s1
    have b2 := below_one w1 (Obj.cells #[.string o.name, .string o.text, .int .i64 o.num] t)
    have r2 := r1.below b2
    have q2 := row1 w1 o t
    rw [s1] at q2
    generalize w1.alloc (Obj.cells #[.string o.name, .string o.text, .int .i64 o.num] t) = w2 at b2 r2 q2
    have b3 := b1.trans (b2.mono b1.size)
    have b4 : Below w.heap.size w w2.drew := b3.trans ((below_drewN w2 1).mono b3.size)
    have r3 : Lns w2.drew _ _ := r2.below (below_drewN w2 1)
    have q3 : Lns w2.drew _ _ := q2.below (below_drewN w2 1)
    refine (hwl _ b4).mono ?_
    rintro e w4 ⟨rfl, hb⟩
    refine ⟨rfl, ?_⟩
    refine (hwo _ _ 1 (q3.below hb)).mono ?_
    rintro e w5 ⟨rfl, hb5⟩
    have b5 := b4.trans (hb.mono b4.size)
    exact ⟨rfl, b5.trans (hb5.mono b5.size), (r3.below hb).below hb5⟩
  have HAD : Hid (∀ W, Calls Tryd.prog 8 #[.int .i64 A, .int .i64 B] W fun e w' => e = .returned (.int .i64 (addI A B)) ∧ W = w') := Lib.hid fun W => iadd_any A B W (by omega) (by omega) (by omega) (by omega)
  obtain ⟨S, hS⟩ : ∃ S, addI A B = S := ⟨_, rfl⟩
  rw [hS] at HAD
  have hAB : S ≤ 2147483647 → A ≤ 2147483647 ∧ B ≤ 2147483647 := fun h => addI_le (by omega) (by omega) (by rw [hS]; exact h)
  by_cases hb : 2147483647 < S
  · clear hA hB hwl hwo hS hAB
    rw [hN]
    go_enter Tryd.func5, Tryd.ntmps5
    go_wp2_with fail
    go_region_law (first
      | (go_simp; (with_reducible refine (HW1.out _).mono ?_); rintro e w2 ⟨rfl, ⟨c0, c1, c2⟩, hx⟩; have HX := Lib.hid hx; clear hx; dsimp only)
      | (go_simp; (with_reducible refine (HW2.out _ _).mono ?_); rintro e w2 ⟨rfl, hx⟩; have HX := Lib.hid hx; clear hx; dsimp only)
      | (go_simp; (with_reducible refine (HX.out _).mono ?_); rintro e w3 ⟨rfl, hb3, hr3⟩; have HB3 := Lib.hid hb3; clear hb3 hr3; dsimp only)
      | (go_simp; (with_reducible refine HX.out.mono ?_); rintro e w3 ⟨rfl, hb3, hr3⟩; have HB3 := Lib.hid hb3; clear hb3 hr3; dsimp only)
      | (go_simp; (with_reducible refine (HAD.out _).mono ?_); rintro e w4 ⟨rfl, rfl⟩; dsimp only))
    all_goals
      go_wp2
      go_ret
      exact ⟨rfl, HB3.out⟩
  · obtain ⟨h1, h2⟩ := hAB (by omega)
    have hwA := capB_le (hA ▸ h1)
    have hwB := capB_le (hB ▸ h2)
    have hF := fit_of_weight (ls := ls) (by omega)
    have hFo := fit_of_weight (ls := [o]) (by omega)
    have hlen := wN_len ls
    have hNb : N ≤ 214748364 := by omega
    obtain ⟨S1, E1, hp1, hr1⟩ := both_print ls (by omega) hF
    rw [hN] at hp1 hr1
    have HP1 := Lib.hid hp1
    have HR1 := Lib.hid hr1
    have HN := Lib.hid hN
    have HC : Hid (N ≤ c) := Lib.hid (by omega)
    have HT : Hid (∀ W, Below w.heap.size w W → Tab W ∧ MaxI W) := Lib.hid fun W hb => ⟨hT.below hb, maxI_below hI hb⟩
    have HAW : Hid (∀ W, Below w.heap.size w W → Calls Tryd.prog 9 #[] W fun e w' => e = .returned (.bool true) ∧ Below W.heap.size W w') := Lib.hid fun W hb => iawake_any W (HT.out W hb).1 (HT.out W hb).2
    have HLX : Hid (∀ W, Below w.heap.size w W → Lns W x ls) := Lib.hid fun W hb => hL.below hb
    have HSM : Hid (∀ W y z d d', Lns W y ls → Lns W z ls → Calls Tryd.prog 15 #[.slice y N d, .slice z N d'] W fun e w' => e = .returned (.bool true) ∧ Below W.heap.size W w') := Lib.hid fun W y z d d' h1 h2 => by
      have := isame_any ls y z d d' W h1 h2 (by omega)
      rw [hN] at this
      exact this
    obtain ⟨CS, hCS⟩ : ∃ CS, (flatL (List.replicate (N + 2) zLn)).toArray = CS := ⟨_, rfl⟩
    have hmk : ∀ W : World, (Instr.makeSlice 27 (.int .i64 ((N : Int) + 2)) (.int .i64 ((N : Int) + 2))).run Tryd.prog W = .ok (.slice (some ⟨W.heap.size, 0, none⟩) (N + 2) (N + 2)) (W.alloc (Obj.cells CS 35)) := fun W => by
      have := run_madeLn W (N + 2) (by omega)
      rw [hCS] at this
      exact this
    have HCP : Hid (∀ W, Below w.heap.size w W → ∃ W', (∀ ty : TypeId, (Builtin.copy_ #[27, 27] ty #[.slice (some ⟨W.heap.size, 0, none⟩) (N + 2) (N + 2), .slice x N c]).run Tryd.prog (W.alloc (Obj.cells CS 35)) = .ok (goInt N) W') ∧ Below w.heap.size w W' ∧ RowLn W' W.heap.size (ls ++ [zLn, zLn]) ∧ Below W.heap.size W W') := Lib.hid fun W hb => by
      have b1 := below_one W (Obj.cells CS 35)
      have hrow : RowLn (W.alloc (Obj.cells CS 35)) W.heap.size (List.replicate (N + 2) zLn) := by
        unfold RowLn
        rw [hCS]
        exact heap_alloc_new _ _
      obtain ⟨W', h1, h2, h3⟩ := run_copyLn (W.alloc (Obj.cells CS 35)) W.heap.size N c x ls hN hrow ((hL.below hb).below b1)
      have hbW : Below W.heap.size W W' := b1.trans (h2.below (Nat.le_refl _) b1.size)
      exact ⟨W', h1, hb.trans (hbW.mono hb.size), h3, hbW⟩
    have w2 : IntKind.i64.wrap ((N : Int) + 2) = (N : Int) + 2 := IntWalk.i64_in _ (by omega)
    have w1 : IntKind.i64.wrap ((N : Int) + 1) = (N : Int) + 1 := IntWalk.i64_in _ (by omega)
    have q1 : (0 : Int) ≤ N := by omega
    have q2 : (N : Int) < (N : Int) + 2 := by omega
    have q3 : (N : Int) + 1 < (N : Int) + 2 := by omega
    have q4 : (0 : Int) ≤ (N : Int) + 1 := by omega
    have q5 : ((N : Int) + 1).toNat = N + 1 := by omega
    rw [hN]
    by_cases hpos : 0 < N
    · have q6 : (0 : Int) < N := by omega
      obtain ⟨p0, p1⟩ := pickI_in (c := at_) q6
      obtain ⟨k, hk⟩ : ∃ k : Nat, pickI at_ N = k := ⟨(pickI at_ N).toNat, by omega⟩
      have hkN : k < N := by omega
      have q7 : (0 : Int) ≤ k := by omega
      have q8 : (k : Int) < (N : Int) + 2 := by omega
      have HPK : Hid (∀ W, Calls Tryd.prog 13 #[.int .i64 at_, .int .i64 N] W fun e w' => e = .returned (.int .i64 k) ∧ W = w') := Lib.hid fun W => by
        have := ipick_any at_ N W q6 (by omega) ha.1 ha.2
        rw [hk] at this
        exact this
      obtain ⟨S2, E2, hp2, hr2⟩ := both_print (ls.set k o) (by rw [List.length_set]; omega) (fit_set hF hFo)
      rw [List.length_set, hN] at hp2 hr2
      have HP2 := Lib.hid hp2
      have HR2 := Lib.hid hr2
      have HKN := Lib.hid hkN
      clear hA hB hwl hwo hS hAB h1 h2 hwA hwB hF hFo hlen hp1 hr1 hN hT hI hL hc hm hz hp2 hr2 hk p0 p1 ha ho hCS hAi hBi
      go_enter Tryd.func5, Tryd.ntmps5
      go_wp2_with fail
      go_region_law (first
        | (go_simp; (with_reducible refine (HW1.out _).mono ?_); rintro e w2 ⟨rfl, ⟨c0, c1, c2⟩, hx⟩; have HX := Lib.hid hx; clear hx; dsimp only)
        | (go_simp; (with_reducible refine (HW2.out _ _).mono ?_); rintro e w2 ⟨rfl, hx⟩; have HX := Lib.hid hx; clear hx; dsimp only)
        | (go_simp; (with_reducible refine (HX.out _).mono ?_); rintro e w3 ⟨rfl, hb3, hr3⟩; have HB3 := Lib.hid hb3; have HR3 := Lib.hid hr3; clear hb3 hr3; dsimp only)
        | (go_simp; (with_reducible refine HX.out.mono ?_); rintro e w3 ⟨rfl, hb3, hr3⟩; have HB3 := Lib.hid hb3; have HR3 := Lib.hid hr3; clear hb3 hr3; dsimp only)
        | (go_simp; (with_reducible refine (HAD.out _).mono ?_); rintro e w4 ⟨rfl, rfl⟩; dsimp only))
      all_goals
        go_wp2_with fail
        refine (HAW.out _ HB3.out).mono ?_
        rintro e w5 ⟨rfl, hb5⟩
        have HB5 := Lib.hid (HB3.out.trans (hb5.mono HB3.out.size))
        have HR5 := Lib.hid (HR3.out.below hb5)
        clear hb5 HX HW1 HW2 HB3 HR3
        obtain ⟨w6, hcp, hb6, hr6, hz6⟩ := HCP.out w5 HB5.out
        obtain ⟨⟨c1, f1⟩, ⟨c2, f2⟩, hr8, hb8⟩ := own_rest w w6 N w5.heap.size ls HN.out HB5.out.size hb6 hr6
        have HX8 := Lib.hid (own_box HR5.out hz6 (((Below.refl _ w6).setCell (p := ⟨w5.heap.size, N * 3, none⟩) (Nat.le_refl _) (.string ⟨#[115, 112, 97, 114, 101]⟩)).setCell (p := ⟨w5.heap.size, (N + 1) * 3, none⟩) (Nat.le_refl _) (.string ⟨#[115, 112, 97, 114, 101]⟩)))
        have HR8 := Lib.hid hr8
        have HB8 := Lib.hid hb8
        have HGG := HB5.out.size
        obtain ⟨G, hG⟩ : ∃ G, w5.heap.size = G := ⟨_, rfl⟩
        rw [hG] at hcp c1 f1 c2 f2 HR8 HB8 HX8 HGG
        have HLS := Lib.hid (own_spares _ N G ls HN.out HR8.out).2.2
        have hsl := fun W => slice_to G 0 (N + 2) (N + 2) N (by omega) W
        clear hb6 hr6 hr8 hb8 HR5 hz6
        go_wp2_with (at_builtin; refine wpList_copy_eq rfl _ _ _ _ rfl _ _ _ rfl rfl (by first | exact hcp _ | (rw [hG]; exact hcp _)) ?_)
        refine (HP1.out _ _ _ HLS.out (HT.out _ HB8.out).1).mono ?_
        rintro e w9 ⟨rfl, hb9⟩
        have HB9 := Lib.hid (HB8.out.trans (hb9.mono HB8.out.size))
        have HR9 := Lib.hid (HR8.out.below hb9)
        have HX9 := Lib.hid (HX8.out.below hb9)
        clear hb9 c1 f1 c2 f2 HLS HR8 HB8 HX8 hcp
        go_wp2_with fail
        refine (HR1.out _ _ _ (HLX.out _ HB9.out) HC.out).mono ?_
        rintro e w10 ⟨rfl, hb10⟩
        have HB10 := Lib.hid (HB9.out.trans (hb10.mono HB9.out.size))
        have HR10 := Lib.hid (HR9.out.below hb10)
        have HX10 := Lib.hid (HX9.out.below hb10)
        clear hb10 HR9 HB9 HX9
        have HLS := Lib.hid (own_spares _ N G ls HN.out HR10.out).2.2
        go_wp2_with fail
        refine (HSM.out _ _ _ (N + 2) c HLS.out (HLX.out _ HB10.out)).mono ?_
        rintro e w11 ⟨rfl, hb11⟩
        have HB11 := Lib.hid (HB10.out.trans (hb11.mono HB10.out.size))
        have HR11 := Lib.hid (HR10.out.below hb11)
        have HX11 := Lib.hid (HX10.out.below hb11)
        clear hb11 HR10 HB10 HX10 HLS
        have HGw := Lib.hid HGG
        clear HGG
        obtain ⟨d1, d2, h3⟩ := own_spares _ N G ls HN.out HR11.out
        have HLS := Lib.hid h3
        clear h3
        obtain ⟨e0, e1, e2⟩ := box_cells HX11.out
        obtain ⟨⟨a0, ca0⟩, ⟨a1, ca1⟩, ⟨a2, ca2⟩, hfz⟩ := own_cells w11 N G k ls HN.out HKN.out HR11.out
        have HL12 := Lib.hid ((own_put w11 N G k ls o HN.out HKN.out HR11.out).below (below_drewN _ 1))
        have hb12 := below_set3 HB11.out HGw.out (k * 3) (k * 3 + 1) (k * 3 + 2) (.string o.name) (.string o.text) (.int .i64 o.num)
        have HB12 := Lib.hid (hb12.trans ((below_drewN _ 1).mono hb12.size))
        clear hb12
        go_wp2_with fail
        go_region_law (first | (go_simp; (with_reducible refine (HPK.out _).mono ?_); rintro e w12 ⟨rfl, rfl⟩; dsimp only))
        all_goals
          go_wp2_with fail
          refine (HP2.out _ _ _ HL12.out (HT.out _ HB12.out).1).mono ?_
          rintro e w13 ⟨rfl, hb13⟩
          have HB13 := Lib.hid (HB12.out.trans (hb13.mono HB12.out.size))
          have HLS2 := Lib.hid (HL12.out.below hb13)
          clear hb13
          go_wp2_with fail
          refine (HR2.out _ _ _ HLS2.out (Nat.le_add_right _ _)).mono ?_
          rintro e w14 ⟨rfl, hb14⟩
          have HB14 := Lib.hid (HB13.out.trans (hb14.mono HB13.out.size))
          clear hb14
          go_wp2
          go_ret
          exact ⟨by first | rfl | simp, HB14.out⟩
    · have q6 : ¬ (0 : Int) < N := by omega
      clear hA hB hwl hwo hS hAB h1 h2 hwA hwB hF hFo hlen hp1 hr1 hN hT hI hL hc hm hz ha ho hCS hAi hBi
      go_enter Tryd.func5, Tryd.ntmps5
      go_wp2_with fail
      go_region_law (first
        | (go_simp; (with_reducible refine (HW1.out _).mono ?_); rintro e w2 ⟨rfl, ⟨c0, c1, c2⟩, hx⟩; have HX := Lib.hid hx; clear hx; dsimp only)
        | (go_simp; (with_reducible refine (HW2.out _ _).mono ?_); rintro e w2 ⟨rfl, hx⟩; have HX := Lib.hid hx; clear hx; dsimp only)
        | (go_simp; (with_reducible refine (HX.out _).mono ?_); rintro e w3 ⟨rfl, hb3, hr3⟩; have HB3 := Lib.hid hb3; have HR3 := Lib.hid hr3; clear hb3 hr3; dsimp only)
        | (go_simp; (with_reducible refine HX.out.mono ?_); rintro e w3 ⟨rfl, hb3, hr3⟩; have HB3 := Lib.hid hb3; have HR3 := Lib.hid hr3; clear hb3 hr3; dsimp only)
        | (go_simp; (with_reducible refine (HAD.out _).mono ?_); rintro e w4 ⟨rfl, rfl⟩; dsimp only))
      all_goals
        go_wp2_with fail
        refine (HAW.out _ HB3.out).mono ?_
        rintro e w5 ⟨rfl, hb5⟩
        have HB5 := Lib.hid (HB3.out.trans (hb5.mono HB3.out.size))
        have HR5 := Lib.hid (HR3.out.below hb5)
        clear hb5 HX HW1 HW2 HB3 HR3
        obtain ⟨w6, hcp, hb6, hr6, hz6⟩ := HCP.out w5 HB5.out
        obtain ⟨⟨c1, f1⟩, ⟨c2, f2⟩, hr8, hb8⟩ := own_rest w w6 N w5.heap.size ls HN.out HB5.out.size hb6 hr6
        have HX8 := Lib.hid (own_box HR5.out hz6 (((Below.refl _ w6).setCell (p := ⟨w5.heap.size, N * 3, none⟩) (Nat.le_refl _) (.string ⟨#[115, 112, 97, 114, 101]⟩)).setCell (p := ⟨w5.heap.size, (N + 1) * 3, none⟩) (Nat.le_refl _) (.string ⟨#[115, 112, 97, 114, 101]⟩)))
        have HR8 := Lib.hid hr8
        have HB8 := Lib.hid hb8
        have HGG := HB5.out.size
        obtain ⟨G, hG⟩ : ∃ G, w5.heap.size = G := ⟨_, rfl⟩
        rw [hG] at hcp c1 f1 c2 f2 HR8 HB8 HX8 HGG
        have HLS := Lib.hid (own_spares _ N G ls HN.out HR8.out).2.2
        have hsl := fun W => slice_to G 0 (N + 2) (N + 2) N (by omega) W
        clear hb6 hr6 hr8 hb8 HR5 hz6
        go_wp2_with (at_builtin; refine wpList_copy_eq rfl _ _ _ _ rfl _ _ _ rfl rfl (by first | exact hcp _ | (rw [hG]; exact hcp _)) ?_)
        refine (HP1.out _ _ _ HLS.out (HT.out _ HB8.out).1).mono ?_
        rintro e w9 ⟨rfl, hb9⟩
        have HB9 := Lib.hid (HB8.out.trans (hb9.mono HB8.out.size))
        have HR9 := Lib.hid (HR8.out.below hb9)
        have HX9 := Lib.hid (HX8.out.below hb9)
        clear hb9 c1 f1 c2 f2 HLS HR8 HB8 HX8 hcp
        go_wp2_with fail
        refine (HR1.out _ _ _ (HLX.out _ HB9.out) HC.out).mono ?_
        rintro e w10 ⟨rfl, hb10⟩
        have HB10 := Lib.hid (HB9.out.trans (hb10.mono HB9.out.size))
        have HR10 := Lib.hid (HR9.out.below hb10)
        have HX10 := Lib.hid (HX9.out.below hb10)
        clear hb10 HR9 HB9 HX9
        have HLS := Lib.hid (own_spares _ N G ls HN.out HR10.out).2.2
        go_wp2_with fail
        refine (HSM.out _ _ _ (N + 2) c HLS.out (HLX.out _ HB10.out)).mono ?_
        rintro e w11 ⟨rfl, hb11⟩
        have HB11 := Lib.hid (HB10.out.trans (hb11.mono HB10.out.size))
        have HR11 := Lib.hid (HR10.out.below hb11)
        have HX11 := Lib.hid (HX10.out.below hb11)
        clear hb11 HR10 HB10 HX10 HLS
        obtain ⟨d1, d2, h3⟩ := own_spares _ N G ls HN.out HR11.out
        have HLS := Lib.hid h3
        clear h3
        go_wp2_with fail
        refine (HP1.out _ _ _ HLS.out (HT.out _ HB11.out).1).mono ?_
        rintro e w12 ⟨rfl, hb12⟩
        have HB12 := Lib.hid (HB11.out.trans (hb12.mono HB11.out.size))
        have HLS2 := Lib.hid (HLS.out.below hb12)
        clear hb12
        go_wp2_with fail
        refine (HR1.out _ _ _ HLS2.out (Nat.le_add_right _ _)).mono ?_
        rintro e w13 ⟨rfl, hb13⟩
        have HB13 := Lib.hid (HB12.out.trans (hb13.mono HB12.out.size))
        clear hb13
        go_wp2
        go_ret
        exact ⟨by first | rfl | simp, HB13.out⟩
end Go.Proofs.YtbpbiakdigjcnaaDoor
