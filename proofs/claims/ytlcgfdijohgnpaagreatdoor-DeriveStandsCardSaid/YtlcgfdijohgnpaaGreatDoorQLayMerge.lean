/-
  LayMerge.
-/
import Derived.Test.YtlcgfdijohgnpaaGreatDoorQLayDefK
import Derived.Test.YtlcgfdijohgnpaaGreatDoorQLayGet
namespace Go.Proofs.YtlcgfdijohgnpaaGreatDoor
open Go.ChangeShapes Go.WideShapes Go.ChangeAt Go.RowKit

set_option maxRecDepth 100000 in
theorem kclone_none (w : World) : Calls Tryz.prog 94 #[.slice none 0 0] w fun e w' => e = .returned (.slice none 0 0) ∧ w = w' := by
  have hq : ∀ (w : World) (a : Option Addr) (n c n' c' : Nat), (binOp .eql 77 (.slice a n c) (.slice none n' c')).run Tryz.prog w = .ok (.bool a.isNone) w := fun w a n c n' c' => Lib.run_eql_slice_nil w _ _ a n c n' c' Tryz.underlying77
  go_enter Tryz.func94, Tryz.ntmps94
  go_wp2
  go_ret
  exact ⟨rfl, rfl⟩
set_option maxRecDepth 100000 in
theorem kall_none (S : Nat) (w : World) (hc : w.cell? ⟨S, 0, none⟩ = some (.slice none 0 0)) :
    Calls Tryz.prog 67 #[.pointer (some ⟨S, 0, none⟩)] w fun e w' => e = .returned (.slice none 0 0) ∧ w = w' := by
  have HC := Lib.hid (kclone_none w)
  go_enter Tryz.func67, Tryz.ntmps67
  go_wp2_with fail
  refine HC.out.mono ?_
  rintro e w' ⟨rfl, rfl⟩
  go_wp2
  go_ret
  exact ⟨rfl, rfl⟩
theorem kall_there (xs : List KeyV) (S : Nat) (x : Option Addr) (c : Nat) (w : World) (h : SetAt w S x c xs) (hn : xs.length ≤ 1000000) :
    Calls Tryz.prog 67 #[.pointer (some ⟨S, 0, none⟩)] w fun e w' => ∃ y d, e = .returned (.slice y xs.length d) ∧ Keys w' y xs ∧ Below w.heap.size w w' := by
  by_cases h0 : 0 < xs.length
  · refine (all_any xs S x c w h h0 hn).mono ?_
    rintro e w' ⟨g, c', rfl, h1, h2, h3, h4⟩
    exact ⟨_, _, rfl, h3, h4⟩
  · have e : xs = [] := List.eq_nil_of_length_eq_zero (by omega)
    subst e
    obtain ⟨rfl, rfl⟩ := h.none_ rfl
    refine (kall_none S w h.cell).mono ?_
    rintro e w' ⟨rfl, rfl⟩
    exact ⟨none, 0, rfl, Keys.nil_ _ _, Below.refl _ _⟩
theorem cells_new (w : World) (l : List Value) (t : TypeId) : ∀ (j : Nat) (u : Value), l[j]? = some u → (w.alloc (Obj.cells l.toArray t)).cell? ⟨w.heap.size, j, none⟩ = some u := fun j u h => by
  rw [cell_of_row _ w.heap.size j _ _ _ (heap_alloc_new w _)]
  simpa using h
def dfltS (k : KeyV) : SetV := ⟨k.name, (parseV k.kind k.dflt).1, 0⟩
structure GoodK (ks : List KeyV) : Prop where
  sorted : Sorted ks
  len : ks.length ≤ 64
  form : ∀ k ∈ ks, formK k = true
  dflt : ∀ k ∈ ks, dfltK k = true
  small : ∀ k ∈ ks, Small k
theorem DfIn.other {w W W2 : World} {X Q B : Nat} {dv hv u : Value} {ks : List KeyV} {ms : List SetM} (h : DfIn w W X B dv hv ks ms) (hg : W.grownBy W2 dv.ownBlock) {a : Array Value} {t : TypeId} {fr : Nat × Nat} (hQ : W.heap[Q]? = some (Obj.cells a t fr)) (ht : t ≠ 111) (hX : t ≠ 60) : (W2.setCell ⟨X, 0, none⟩ u).heap[Q]? = some (Obj.cells a t fr) := by
  have hne : Q ≠ X := fun e => by
    subst e
    rw [h.obj] at hQ
    injection hQ with hQ
    injection hQ with _ h2 _
    exact hX h2.symm
  rw [Below.heap_setCell _ _ _ _ hne]
  exact (hg.block Q (heap_ltF hQ) (fun e => own_ne h.drow hQ ht e.symm)).trans hQ
theorem Keys.but {w w' : World} {X : Nat} {x : Option Addr} {ks : List KeyV} {a b : Value} {t : TypeId} (h : Keys w x ks) (hX : w.heap[X]? = some (Obj.cells #[a, b] t)) (ha : ∀ s, a ≠ .string s) (hb : But X w w') : Keys w' x ks := by
  have hne : ∀ i (hi : i < ks.length) b0, x = some ⟨b0, 0, none⟩ → b0 ≠ X := fun i hi b0 e e2 => by
    subst e2
    obtain ⟨b1, e3, _, c0, _⟩ := h 0 (by omega)
    have : b0 = b1 := by rw [e] at e3; simpa using e3
    subst this
    rw [cell_of_row w b0 _ _ _ _ hX, Nat.zero_mul] at c0
    exact ha _ (Option.some.inj c0)
  intro i hi
  obtain ⟨b0, e, hl, c0, c1, c2, c3, c4, c5⟩ := h i hi
  have hn := hne i hi b0 e
  exact ⟨b0, e, Nat.lt_of_lt_of_le hl hb.2.2.2.1, by rw [hb.cell (p := ⟨b0, _, none⟩) hl hn]; exact c0, by rw [hb.cell (p := ⟨b0, _, none⟩) hl hn]; exact c1, by rw [hb.cell (p := ⟨b0, _, none⟩) hl hn]; exact c2, by rw [hb.cell (p := ⟨b0, _, none⟩) hl hn]; exact c3, by rw [hb.cell (p := ⟨b0, _, none⟩) hl hn]; exact c4, by rw [hb.cell (p := ⟨b0, _, none⟩) hl hn]; exact c5⟩
theorem DfIn.cells {w W : World} {X B : Nat} {dv hv : Value} {ks : List KeyV} {ms : List SetM} (h : DfIn w W X B dv hv ks ms) : W.cell? ⟨X, 0, none⟩ = some dv ∧ W.cell? ⟨X, 1, none⟩ = some hv ∧ ∀ j, W.frozen? ⟨X, j, none⟩ = false :=
  ⟨by rw [cell_of_row W X 0 _ _ _ h.obj]; rfl, by rw [cell_of_row W X 1 _ _ _ h.obj]; rfl, fun j => by simp [World.frozen?, h.obj]⟩
def Key4 (w : World) (K : Nat) (nm : ByteArray) (kd la mo : Int) : Prop := w.cell? ⟨K, 0, none⟩ = some (.string nm) ∧ w.cell? ⟨K, 1, none⟩ = some (.int .i64 kd) ∧ w.cell? ⟨K, 3, none⟩ = some (.int .i64 la) ∧ w.cell? ⟨K, 4, none⟩ = some (.int .i64 mo)
theorem key4 {w : World} {K : Nat} {nm dl le : ByteArray} {kd la mo : Int} {t : TypeId} {fr : Nat × Nat} (h : w.heap[K]? = some (Obj.cells #[.string nm, .int .i64 kd, .string dl, .int .i64 la, .int .i64 mo, .string le] t fr)) : Key4 w K nm kd la mo :=
  ⟨by rw [cell_of_row w K 0 _ _ _ h]; rfl, by rw [cell_of_row w K 1 _ _ _ h]; rfl, by rw [cell_of_row w K 3 _ _ _ h]; rfl, by rw [cell_of_row w K 4 _ _ _ h]; rfl⟩
def Val4 (w : World) (V : Nat) (pk pi : Int) (pt : ByteArray) (x : Value) : Prop := w.cell? ⟨V, 0, none⟩ = some (.int .i64 pk) ∧ w.cell? ⟨V, 1, none⟩ = some (.int .i64 pi) ∧ w.cell? ⟨V, 2, none⟩ = some (.string pt) ∧ w.cell? ⟨V, 3, none⟩ = some x
theorem val4 {w : World} {V : Nat} {pk pi : Int} {pt : ByteArray} {x : Value} {t : TypeId} {fr : Nat × Nat} (h : w.heap[V]? = some (Obj.cells #[.int .i64 pk, .int .i64 pi, .string pt, x] t fr)) : Val4 w V pk pi pt x :=
  ⟨by rw [cell_of_row w V 0 _ _ _ h]; rfl, by rw [cell_of_row w V 1 _ _ _ h]; rfl, by rw [cell_of_row w V 2 _ _ _ h]; rfl, by rw [cell_of_row w V 3 _ _ _ h]; rfl⟩
theorem DfIn.otherH {w W W2 : World} {X Q B : Nat} {dv hv u : Value} {ks : List KeyV} {ms : List SetM} (h : DfIn w W X B dv hv ks ms) (hg : W.grownBy W2 hv.ownBlock) {a : Array Value} {t : TypeId} {fr : Nat × Nat} (hQ : W.heap[Q]? = some (Obj.cells a t fr)) (ht : t ≠ 107) (hX : t ≠ 60) : (W2.setCell ⟨X, 1, none⟩ u).heap[Q]? = some (Obj.cells a t fr) := by
  have hne : Q ≠ X := fun e => by
    subst e
    rw [h.obj] at hQ
    injection hQ with hQ
    injection hQ with _ h2 _
    exact hX h2.symm
  rw [Below.heap_setCell _ _ _ _ hne]
  exact (hg.block Q (heap_ltF hQ) (fun e => own_ne h.hrow hQ ht e.symm)).trans hQ
def DfRes (ks : List KeyV) (w : World) (e : Ending) (w' : World) : Prop := ∃ dv hv ms, e = .returned (.pointer (some ⟨w.heap.size, 0, none⟩)) ∧ (∃ B, DfIn w w' w.heap.size B dv hv ks ms) ∧ ms.map (·.x) = ks.map dfltS
set_option maxHeartbeats 6400000 in
set_option maxRecDepth 100000 in
theorem ldefaults_any (ks : List KeyV) (S : Nat) (sx : Option Addr) (sc : Nat) (w : World) (hS : SetAt w S sx sc ks) (hG : GoodK ks) (hT : Tab w) (hU : Units w) (hM : MaxI w) :
    Calls Tryz.prog 37 #[.pointer (some ⟨S, 0, none⟩)] w (DfRes ks w) := by
  obtain ⟨n, hn'⟩ : ∃ n, ks.length = n := ⟨_, rfl⟩
  have hn : n ≤ 64 := by rw [← hn']; exact hG.len
  have HN := Lib.hid hn'
  have HAL : Hid (∀ o, Calls Tryz.prog 67 #[.pointer (some ⟨S, 0, none⟩)] (w.alloc o) fun e w' => ∃ y d, e = .returned (.slice y n d) ∧ Keys w' y ks ∧ Below (w.alloc o).heap.size (w.alloc o) w') := Lib.hid fun o => by
    have := kall_there ks S sx sc (w.alloc o) (hS.below (below_one w o)) (by omega)
    rw [hn'] at this; exact this
  have HPA : Hid (∀ k ∈ ks, ∀ W, Below w.heap.size w W → Calls Tryz.prog 68 #[.int .i64 k.kind, .string k.dflt] W (ParseRes W (parseV k.kind k.dflt))) := Lib.hid fun k hk W hb => parse_any k.kind k.dflt W (hT.below hb) (hU.below hb) (hM.below hb) (by have := (hG.small k hk).2.1; unfold maxLen; omega)
  have HCL : Hid (∀ k ∈ ks, ∀ W, Calls Tryz.prog 21 #[.string k.name] W fun e w' => e = .returned (.string k.name) ∧ Below W.heap.size W w') := Lib.hid fun k hk W => clone_any k.name W (by have := (hG.small k hk).1; omega)
  clear hS hG hT hU hM hn'
  go_enter Tryz.func37, Tryz.ntmps37
  go_wp2_with fail
  refine (HAL.out _).mono ?_
  rintro e w1 ⟨y, d, rfl, hk1, hb1⟩
  have HI1 := Lib.hid (DfIn.start w w1 hb1)
  have HKB : Hid (∀ W, But w.heap.size w1 W → Keys W y ks) := Lib.hid fun W hW => hk1.but HI1.out.obj (fun s => by simp) hW
  have HB1 := Lib.hid (But.refl w.heap.size w1)
  clear hk1 hb1 HAL
  go_wp2
  go_loopw [13] (fun i wr => ∃ (k : Nat) (dv hv : Value) (ls : List SetM), i = .int .i64 k ∧ k ≤ n ∧ ls.length = k ∧ ls.map (·.x) = (ks.take k).map dfltS ∧ Hid (DfIn w wr w.heap.size w1.heap.size dv hv (ks.take k) ls) ∧ Hid (But w.heap.size w1 wr)) (fun i _ => n - (intOf i).toNat)
  case atStart => exact ⟨0, _, _, [], rfl, by omega, rfl, rfl, HI1, HB1⟩
  case round =>
    clear HI1 HB1
    obtain ⟨k, dv, hv, ls, rfl, hk, hll, hlx, HI, HK⟩ := hrel
    have HLX := Lib.hid hlx
    have HLL := Lib.hid hll
    clear hlx
    by_cases hlt : k < n
    · have q1 : (0 : Int) ≤ k := by omega
      have q2 : (k : Int) < n := by omega
      have HLB : Hid (w.heap.size ≤ (wr.heap.size)) := Lib.hid HI.out.below.size
      have hkk : k < ks.length := by rw [HN.out]; exact hlt
      obtain ⟨b, hye, hbl, c0, c1, c2, c3, c4, c5⟩ := (HKB.out wr HK.out) k hkk
      have HP := Lib.hid (HPA.out _ (List.getElem_mem hkk))
      have HC := Lib.hid (HCL.out _ (List.getElem_mem hkk))
      have htk : ks.take (k + 1) = ks.take k ++ [ks[k]] := List.take_succ_eq_append_getElem hkk
      have htl : (ks.take k).length = k := by rw [List.length_take, HN.out]; omega
      generalize ks[k] = key at *
      obtain ⟨nm, kd, dl, la, mo, le⟩ := key
      simp only at c0 c1 c2 c3 c4 c5 HP HC
      have HTK := Lib.hid (And.intro htk htl)
      obtain ⟨⟨⟨pk, pi, pt, pw⟩, pe⟩, hpv⟩ : ∃ p, parseV kd dl = p := ⟨_, rfl⟩
      rw [hpv] at HP
      have HPV := Lib.hid hpv
      have HB0 : Hid (∀ o, DfIn w (wr.alloc o) w.heap.size w1.heap.size dv hv (ks.take k) ls ∧ But w.heap.size w1 (wr.alloc o)) := Lib.hid fun o => ⟨HI.out.after (below_one wr o), HK.out.then_below (below_one wr o)⟩
      subst hye
      clear htk htl hkk hpv HI HK hll
      go_wp2_with fail
      refine (HP.out _ (HB0.out _).1.below).mono ?_
      rintro e w5 ⟨hb5, x5, c5', rfl, hw5⟩
      have HI5 := Lib.hid ((HB0.out _).1.after hb5)
      have HK5 := Lib.hid ((HB0.out _).2.then_below hb5)
      have hKk : w5.heap[wr.heap.size]? = some (Obj.cells #[.string nm, .int .i64 kd, .string dl, .int .i64 la, .int .i64 mo, .string le] 90) := by
        rw [hb5.block wr.heap.size (by simp)]
        exact heap_alloc_new wr _
      have HKK := Lib.hid hKk
      have HW5 := Lib.hid (And.intro hw5 (show wr.heap.size + 1 ≤ w5.heap.size by have := hb5.size; simpa using this))
      clear hb5 hw5 hKk HB0 HP c0 c1 c2 c3 c4 c5
      have HV5 : Hid (∀ t, (w5.alloc (Obj.cells #[.int .i64 pk, .int .i64 pi, .string pt, .slice x5 pw.length c5'] t)).heap[w5.heap.size]? = some (Obj.cells #[.int .i64 pk, .int .i64 pi, .string pt, .slice x5 pw.length c5'] t)) := Lib.hid fun t => heap_alloc_new w5 _
      obtain ⟨nw, hnw⟩ : ∃ nw, pw.length = nw := ⟨_, rfl⟩
      have HNW := Lib.hid hnw
      rw [hnw] at HV5
      simp only at HW5
      simp only [hnw]
      clear hnw
      go_wp2
      obtain ⟨WA, hWA⟩ : ∃ W, w5.alloc (Obj.cells #[.int .i64 pk, .int .i64 pi, .string pt, .slice x5 nw c5'] 37) = W := ⟨_, rfl⟩
      have hba : Below w5.heap.size w5 WA := by rw [← hWA]; exact below_one w5 _
      have hVA : WA.heap[w5.heap.size]? = some (Obj.cells #[.int .i64 pk, .int .i64 pi, .string pt, .slice x5 nw c5'] 37) := by rw [← hWA]; exact HV5.out _
      have HIA := Lib.hid (HI5.out.after hba)
      have HKA := Lib.hid (HK5.out.then_below hba)
      have hKA := (hba.block wr.heap.size HW5.out.2).trans HKK.out
      have HWA : Hid (OwnT w.heap.size WA x5 c5' pw) := Lib.hid (by
        have h1 : OwnT w.heap.size w5 x5 c5' pw := by
          rcases HW5.out.1 with h | ⟨g, h1, h2, h3, h4, h6⟩
          · exact .inl h
          · exact .inr ⟨g, h1, by have h7 := HLB.out; simp at h2; omega, h3, h4, h6⟩
        exact ownT_block h1 fun g hg => hba.block g (heap_ltF hg))
      have HAB := Lib.hid (And.intro hKA hVA)
      obtain ⟨a0, _, _⟩ := HIA.out.cells
      have k0 := cell_of_row WA wr.heap.size 0 _ _ _ hKA
      have k1 := cell_of_row WA wr.heap.size 1 _ _ _ hKA
      have k3 := cell_of_row WA wr.heap.size 3 _ _ _ hKA
      have k4 := cell_of_row WA wr.heap.size 4 _ _ _ hKA
      replace k0 : WA.cell? ⟨wr.heap.size, 0, none⟩ = some (.string nm) := k0
      replace k1 : WA.cell? ⟨wr.heap.size, 1, none⟩ = some (.int .i64 kd) := k1
      replace k3 : WA.cell? ⟨wr.heap.size, 3, none⟩ = some (.int .i64 la) := k3
      replace k4 : WA.cell? ⟨wr.heap.size, 4, none⟩ = some (.int .i64 mo) := k4
      have HK4 := Lib.hid (And.intro k1 (And.intro k3 k4))
      have HKL := Lib.hid (lt_of_cell k0)
      rw [hWA]
      have HST : Hid (∀ w6, Below WA.drew.heap.size WA.drew w6 → (w6.cell? ⟨w.heap.size, 0, none⟩ = some dv ∧ Key4 w6 wr.heap.size nm kd la mo) ∧ ∀ o, ((w6.alloc o).cell? ⟨w.heap.size, 0, none⟩ = some dv ∧ Key4 (w6.alloc o) wr.heap.size nm kd la mo) ∧ (w6.alloc o).ownsRow w1.heap.size 111 4 dv k (dFlat (ks.take k)) ∧ w1.heap.size ≤ (w6.alloc o).heap.size ∧ ∀ dv' w7, w7.ownsRow w1.heap.size 111 4 dv' (k + 1) (dFlat (ks.take k) ++ dCells ⟨nm, kd, dl, la, mo, le⟩) → (w6.alloc o).grownBy w7 dv.ownBlock →
          (DfIn w (w7.setCell ⟨w.heap.size, 0, none⟩ dv') w.heap.size w1.heap.size dv' hv (ks.take (k + 1)) ls ∧ But w.heap.size w1 (w7.setCell ⟨w.heap.size, 0, none⟩ dv') ∧ (w7.setCell ⟨w.heap.size, 0, none⟩ dv').heap[w5.heap.size]? = some (Obj.cells #[.int .i64 pk, .int .i64 pi, .string pt, .slice x5 nw c5'] 37) ∧ OwnT w.heap.size (w7.setCell ⟨w.heap.size, 0, none⟩ dv') x5 c5' pw) ∧ (∃ u, w7.cell? ⟨w.heap.size, 0, none⟩ = some u) ∧ w7.frozen? ⟨w.heap.size, 0, none⟩ = false ∧ Key4 w7 wr.heap.size nm kd la mo ∧ Key4 (w7.setCell ⟨w.heap.size, 0, none⟩ dv') wr.heap.size nm kd la mo) := Lib.hid fun w6 hb6 => by
        have hb6' := (below_drewN WA 1).trans hb6
        have hk6 := (hb6'.block _ (heap_ltF HAB.out.1)).trans HAB.out.1
        have hi6a := HIA.out.after hb6'
        refine ⟨⟨hi6a.cells.1, key4 hk6⟩, fun o => ?_⟩
        have hi6 := hi6a.after (below_one w6 o)
        have hk6o := ((below_one w6 o).block _ (heap_ltF hk6)).trans hk6
        have hrow := hi6.drow
        rw [HTK.out.2] at hrow
        refine ⟨⟨hi6.cells.1, key4 hk6o⟩, hrow, hi6.base.2, fun dv' w7 h1 h2 => ?_⟩
        have hd := hi6.defs (dv' := dv') (k := ⟨nm, kd, dl, la, mo, le⟩) (by rw [HTK.out.2]; exact h1) h2
        have hbo : Below WA.heap.size WA (w6.alloc o) := hb6'.trans ((below_one w6 o).mono hb6'.size)
        have hv6 := (hbo.block _ (heap_ltF HAB.out.2)).trans HAB.out.2
        have hX7 : w7.heap[w.heap.size]? = some (Obj.cells #[dv, hv] 60) := (h2.block _ (heap_ltF hi6.obj) (fun e => own_ne hi6.drow hi6.obj (by decide) e.symm)).trans hi6.obj
        have hk7 := (h2.block _ (heap_ltF hk6o) (fun e => own_ne hi6.drow hk6o (by decide) e.symm)).trans hk6o
        refine ⟨⟨by rw [HTK.out.1]; exact hd, ?_, hi6.other h2 hv6 (by decide) (by decide), ?_⟩, ⟨_, cell_of_row w7 _ 0 _ _ _ hX7⟩, by simp [World.frozen?, hX7], key4 hk7, key4 (hi6.other h2 hk6o (by decide) (by decide))⟩
        · exact (but_row (HKA.out.then_below hbo) hi6.drow (Nat.le_refl _) h2).setCell 0 dv'
        · have h3 : OwnT w.heap.size (w6.alloc o) x5 c5' pw := ownT_block HWA.out fun g hg => hbo.block g (heap_ltF hg)
          exact ownT_block h3 fun g hg => (hi6.other (u := dv') h2 hg (by decide) (by decide)).trans hg.symm
      clear hWA hba hVA hKA HAB HKA HIA HWA HI5 HK5 HW5 HV5 HKK HLB HK4 HKL
      go_wp2
      refine wp_region_held_drew (S := (fun W => W.cell? ⟨wr.heap.size, 0, none⟩ = some (.string nm) ∧ W.cell? ⟨wr.heap.size, 1, none⟩ = some (.int .i64 kd) ∧ W.cell? ⟨wr.heap.size, 3, none⟩ = some (.int .i64 la) ∧ W.cell? ⟨wr.heap.size, 4, none⟩ = some (.int .i64 mo))) (by kernel_rfl) ⟨k0, k1, k3, k4⟩ (fun hH0 => ?_)
      refine' wpAnyH_take (i := 0) rfl (by kernel_rfl) (by kernel_rfl) (by kernel_rfl) (fun _ _ _ h => h) (Or.inl ⟨by rfl, ?hy1⟩) (by assumption) ?rest1
      case hy1 => (intro w hSw; (try dsimp only at hSw); go_simp; (try with_reducible rfl))
      try simp only [Act.put, List.setIfInBounds_toArray]
      refine' wpAnyH_take (i := 1) rfl (by kernel_rfl) (by kernel_rfl) (by kernel_rfl) (fun _ _ _ h => h) (Or.inl ⟨by rfl, ?hy2⟩) (by assumption) ?rest2
      case hy2 => (intro w hSw; (try dsimp only at hSw); go_simp; (try with_reducible rfl))
      try simp only [Act.put]
      refine' wpAnyH_take (i := 2) rfl (by kernel_rfl) (by kernel_rfl) (by kernel_rfl) (fun _ _ _ h => h) (Or.inl ⟨by rfl, ?hy3⟩) (by assumption) ?rest3
      case hy3 => (intro w hSw; (try dsimp only at hSw); go_simp; (try with_reducible rfl))
      try simp only [Act.put]
      refine' wpAnyH_take (i := 3) rfl (by kernel_rfl) (by kernel_rfl) (by kernel_rfl) (fun _ _ _ h => h) (Or.inl ⟨by rfl, ?hy4⟩) (by assumption) ?rest4
      case hy4 => (intro w hSw; (try dsimp only at hSw); go_simp; (try with_reducible rfl))
      try simp only [Act.put]
      refine' wpAnyH_take (i := 5) rfl (by kernel_rfl) (by kernel_rfl) (by kernel_rfl) (fun _ _ _ h => h) (Or.inl ⟨by rfl, ?hy5⟩) (by assumption) ?rest5
      case hy5 => (intro w hSw; (try dsimp only at hSw); go_simp; (try with_reducible rfl))
      try simp only [Act.put]
      refine' wpAnyH_take (i := 6) rfl (by kernel_rfl) (by kernel_rfl) (by kernel_rfl) (fun _ _ _ h => h) (Or.inl ⟨by rfl, ?hy6⟩) (by assumption) ?rest6
      case hy6 => (intro w hSw; (try dsimp only at hSw); go_simp; (try with_reducible rfl))
      try simp only [Act.put]
      refine' wpAnyH_take (i := 8) rfl (by kernel_rfl) (by kernel_rfl) (by kernel_rfl) (fun _ _ _ h => h) (Or.inl ⟨by rfl, ?hy7⟩) (by assumption) ?rest7
      case hy7 => (intro w hSw; (try dsimp only at hSw); go_simp; (try with_reducible rfl))
      try simp only [Act.put]
      refine' wpAnyH_take (i := 9) rfl (by kernel_rfl) (by kernel_rfl) (by kernel_rfl) (fun _ _ _ h => h) (Or.inl ⟨by rfl, ?hy8⟩) (by assumption) ?rest8
      case hy8 => (intro w hSw; (try dsimp only at hSw); go_simp; (try with_reducible rfl))
      try simp only [Act.put]
      refine' wpAnyH_take (i := 10) rfl (by kernel_rfl) (by kernel_rfl) (by kernel_rfl) (fun _ _ _ h => h) (Or.inl ⟨by rfl, ?hy9⟩) (by assumption) ?rest9
      case hy9 => (intro w hSw; (try dsimp only at hSw); go_simp; (try with_reducible rfl))
      try simp only [Act.put]
      refine' wpAnyH_take (i := 11) rfl (by kernel_rfl) (by kernel_rfl) (by kernel_rfl) (fun _ _ _ h => h) (Or.inl ⟨by rfl, ?hy10⟩) (by assumption) ?rest10
      case hy10 => (intro w hSw; (try dsimp only at hSw); go_simp; (try with_reducible rfl))
      try simp only [Act.put]
      refine' wpAnyH_take (i := 12) rfl (by kernel_rfl) (by kernel_rfl) (by kernel_rfl) (fun _ _ _ h => h) (Or.inl ⟨by rfl, ?hy11⟩) (by assumption) ?rest11
      case hy11 => (intro w hSw; (try dsimp only at hSw); go_simp; (try with_reducible rfl))
      try simp only [Act.put]
      refine' wpAnyH_take (i := 13) rfl (by kernel_rfl) (by kernel_rfl) (by kernel_rfl) (fun _ _ _ h => h) (Or.inl ⟨by rfl, ?hy12⟩) (by assumption) ?rest12
      case hy12 => (intro w hSw; (try dsimp only at hSw); go_simp; (try with_reducible rfl))
      try simp only [Act.put]
      refine wpAnyH_ready (rs := [4, 7]) (by kernel_rfl) (by simp) ?_
      refine AllReadyH.cons rfl (fun K hK => ?_) ?_
      · skip
        go_simp
        refine hK.out _ _ ?_ (fun hH1 => ?_)
        · (try dsimp only); (first | exact ⟨k0, k1, k3, k4⟩ | exact KS6.out | exact KSa.out | exact KS7.out | exact KS8.out)
        clear hK K
        try simp only [Act.put, List.setIfInBounds_toArray, List.set_cons_zero, List.set_cons_succ]
        refine wpAnyH_ready (rs := [7]) (by kernel_rfl) (by simp) ?_
        refine AllReadyH.cons rfl (fun K hK => ?_) ?_
        · skip
          go_simp
          (with_reducible refine (HC.out _).mono ?_)
          rintro e w6 ⟨rfl, hb6⟩
          obtain ⟨⟨a6, k6⟩, h6⟩ := HST.out w6 hb6
          obtain ⟨⟨aa, ka⟩, h6b⟩ := h6 (Obj.cells #[.string nm, .int .i64 kd, .int .i64 la, .int .i64 mo] 111)
          have KS6 := Lib.hid k6
          have KSa := Lib.hid ka
          have H6 := Lib.hid h6b
          have CN6 : Hid (∀ (j : Nat) (u : Value), (dCells ⟨nm, kd, dl, la, mo, le⟩)[j]? = some u → (w6.alloc (Obj.cells #[.string nm, .int .i64 kd, .int .i64 la, .int .i64 mo] 111)).cell? ⟨w6.heap.size, j, none⟩ = some u) := Lib.hid (cells_new w6 (dCells ⟨nm, kd, dl, la, mo, le⟩) _)
          clear hb6 k6 ka h6 h6b
          dsimp only
          refine hK.out _ _ ?_ (fun hH2 => ?_)
          · (try dsimp only); (first | exact ⟨k0, k1, k3, k4⟩ | exact KS6.out | exact KSa.out | exact KS7.out | exact KS8.out)
          clear hK K
          try simp only [Act.put, List.setIfInBounds_toArray, List.set_cons_zero, List.set_cons_succ]
          refine' wpAnyH_take (i := 14) rfl (by kernel_rfl) (by kernel_rfl) (by kernel_rfl) (fun _ _ _ h => h) (Or.inl ⟨by rfl, ?hy13⟩) (by assumption) ?rest13
          case hy13 => (intro w hSw; (try dsimp only at hSw); go_simp; (try with_reducible rfl))
          try simp only [Act.put, List.setIfInBounds_toArray]
          refine wpAnyH_ready (rs := [15]) (by kernel_rfl) (by simp) ?_
          refine AllReadyH.cons rfl (fun K hK => ?_) ?_
          · skip
            go_simp
            refine hK.out _ _ ?_ (fun hH3 => ?_)
            · (try dsimp only); (first | exact ⟨k0, k1, k3, k4⟩ | exact KS6.out | exact KSa.out | exact KS7.out | exact KS8.out)
            clear hK K
            try simp only [Act.put, List.setIfInBounds_toArray, List.set_cons_zero, List.set_cons_succ]
            refine wpAnyH_ready (rs := [16]) (by kernel_rfl) (by simp) ?_
            refine AllReadyH.cons rfl (fun K hK => ?_) ?_
            · skip
              refine stepD (W := w6.alloc (Obj.cells #[.string nm, .int .i64 kd, .int .i64 la, .int .i64 mo] 111)) rfl _ _ rfl H6.out.1 H6.out.2.1 (by omega) ⟨nm, kd, dl, la, mo, le⟩ rfl rfl CN6.out ?_
              intro y7 cap7 w7 g1 g2 g3
              obtain ⟨D1, ⟨u0, D5⟩, D6, k7, k8⟩ := H6.out.2.2 _ w7 g1 g2
              have HD := Lib.hid D1
              have KS7 := Lib.hid k7
              have KS8 := Lib.hid k8
              clear D1 k7 k8 g1 g2 g3
              refine hK.out _ _ ?_ (fun hH4 => ?_)
              · (try dsimp only); (first | exact ⟨k0, k1, k3, k4⟩ | exact KS6.out | exact KSa.out | exact KS7.out | exact KS8.out)
              clear hK K
              try simp only [Act.put, List.setIfInBounds_toArray]
              refine' wpAnyH_take (i := 17) rfl (by kernel_rfl) (by kernel_rfl) (by kernel_rfl) (fun _ _ _ h => h) (Or.inl ⟨by rfl, ?hy14⟩) (by assumption) ?rest14
              case hy14 => (intro w hSw; (try dsimp only at hSw); go_simp; (try with_reducible rfl))
              try simp only [Act.put]
              refine' wpAnyH_take (i := 18) rfl (by kernel_rfl) (by kernel_rfl) (by kernel_rfl) (fun _ _ _ h => h) (Or.inl ⟨by rfl, ?hy15⟩) (by assumption) ?rest15
              case hy15 => (intro w hSw; (try dsimp only at hSw); go_simp; (try with_reducible rfl))
              try simp only [Act.put]
              refine wpAnyH_ready (rs := [19]) (by kernel_rfl) (by simp) ?_
              refine AllReadyH.cons rfl (fun K hK => ?_) ?_
              · skip
                go_simp
                refine hK.out _ _ ?_ (fun hH5 => ?_)
                · (try dsimp only); (first | exact ⟨k0, k1, k3, k4⟩ | exact KS6.out | exact KSa.out | exact KS7.out | exact KS8.out)
                clear hK K
                try simp only [Act.put, List.setIfInBounds_toArray, List.set_cons_zero, List.set_cons_succ]
                refine wpAnyH_done (by kernel_rfl) ?_ _
                obtain ⟨W8, hW8⟩ : ∃ W, w7.setCell ⟨w.heap.size, 0, none⟩ (.slice (some ⟨y7, 0, none⟩) (k + 1) cap7) = W := ⟨_, rfl⟩
                have HD8 := HD.out
                rw [hW8] at HD8
                obtain ⟨hi8, hb8, hv8, ho8⟩ := HD8
                have HST2 : Hid (∀ o, ((W8.alloc o).cell? ⟨w.heap.size, 1, none⟩ = some hv ∧ Val4 (W8.alloc o).drew w5.heap.size pk pi pt (.slice x5 nw c5')) ∧ (W8.alloc o).drew.ownsRow w1.heap.size 107 5 hv k (hFlat ls) ∧ w1.heap.size ≤ (W8.alloc o).drew.heap.size ∧ ∀ hv' w10, w10.ownsRow w1.heap.size 107 5 hv' (k + 1) (hFlat ls ++ hCells ⟨⟨nm, ⟨pk, pi, pt, pw⟩, 0⟩, x5, c5'⟩) → (W8.alloc o).drew.grownBy w10 hv.ownBlock →
                    (DfIn w (w10.setCell ⟨w.heap.size, 1, none⟩ hv') w.heap.size w1.heap.size (.slice (some ⟨y7, 0, none⟩) (k + 1) cap7) hv' (ks.take (k + 1)) (ls ++ [⟨⟨nm, ⟨pk, pi, pt, pw⟩, 0⟩, x5, c5'⟩]) ∧ But w.heap.size w1 (w10.setCell ⟨w.heap.size, 1, none⟩ hv')) ∧ (∃ u, w10.cell? ⟨w.heap.size, 1, none⟩ = some u) ∧ w10.frozen? ⟨w.heap.size, 1, none⟩ = false ∧ Val4 w10 w5.heap.size pk pi pt (.slice x5 nw c5') ∧ Val4 (w10.setCell ⟨w.heap.size, 1, none⟩ hv') w5.heap.size pk pi pt (.slice x5 nw c5')) := Lib.hid fun o => by
                  have hbo : Below W8.heap.size W8 (W8.alloc o).drew := (below_drewN W8 1).trans (below_one W8.drew o)
                  have hi9 := hi8.after hbo
                  have hv9 := (hbo.block _ (heap_ltF hv8)).trans hv8
                  have hrow := hi9.hrow
                  rw [HLL.out] at hrow
                  refine ⟨⟨hi9.cells.2.1, val4 hv9⟩, hrow, hi9.base.2, fun hv' w10 h1 h2 => ?_⟩
                  have hd := hi9.held (hv' := hv') (m0 := ⟨⟨nm, ⟨pk, pi, pt, pw⟩, 0⟩, x5, c5'⟩) (ownT_block ho8 fun g hg => hbo.block g (heap_ltF hg)) (by rw [HLL.out]; exact h1) h2
                  have hX10 : w10.heap[w.heap.size]? = some (Obj.cells #[.slice (some ⟨y7, 0, none⟩) (k + 1) cap7, hv] 60) := (h2.block _ (heap_ltF hi9.obj) (fun e => own_ne hi9.hrow hi9.obj (by decide) e.symm)).trans hi9.obj
                  have hv10 := (h2.block _ (heap_ltF hv9) (fun e => own_ne hi9.hrow hv9 (by decide) e.symm)).trans hv9
                  refine ⟨⟨hd, (but_row (hb8.then_below hbo) hi9.hrow (Nat.le_refl _) h2).setCell 1 hv'⟩, ⟨_, cell_of_row w10 _ 1 _ _ _ hX10⟩, by simp [World.frozen?, hX10], val4 hv10, val4 (hi9.otherH h2 hv9 (by decide) (by decide))⟩
                obtain ⟨v0, v1, v2, v3⟩ := val4 hv8
                obtain ⟨_, x1, _⟩ := hi8.cells
                obtain ⟨⟨xa, va⟩, H9a⟩ := HST2.out (Obj.cells #[.int .i64 pk, .int .i64 pi, .string pt, .slice x5 nw c5', .int .i64 0] 107)
                have KVa := Lib.hid va
                have H9 := Lib.hid H9a
                have CN9 : Hid (∀ (j : Nat) (u : Value), (hCells ⟨⟨nm, ⟨pk, pi, pt, pw⟩, 0⟩, x5, c5'⟩)[j]? = some u → (W8.alloc (Obj.cells #[.int .i64 pk, .int .i64 pi, .string pt, .slice x5 nw c5', .int .i64 0] 107)).drew.cell? ⟨W8.heap.size, j, none⟩ = some u) := Lib.hid (by
                  have e : hCells ⟨⟨nm, ⟨pk, pi, pt, pw⟩, 0⟩, x5, c5'⟩ = [.int .i64 pk, .int .i64 pi, .string pt, .slice x5 nw c5', .int .i64 0] := by unfold hCells; rw [HNW.out]
                  rw [e]
                  exact cells_new W8 _ _)
                rw [hW8]
                clear HD hW8 hi8 hb8 hv8 ho8 HST2 va H9a KS6 KSa KS7 KS8 H6 CN6 HST HC
                go_wp2
                go_region_law (first
                  | (refine stepH (W := (W8.alloc (Obj.cells #[.int .i64 pk, .int .i64 pi, .string pt, .slice x5 nw c5', .int .i64 0] 107)).drew) rfl _ _ rfl H9.out.1 H9.out.2.1 (by omega) ⟨⟨nm, ⟨pk, pi, pt, pw⟩, 0⟩, x5, c5'⟩ rfl rfl CN9.out ?_
                     intro y10 cap10 w10 g1 g2 g3
                     obtain ⟨D1, ⟨u1, D5⟩, D6, k7, k8⟩ := H9.out.2.2 _ w10 g1 g2
                     have HD := Lib.hid D1
                     have KV7 := Lib.hid k7
                     have KV8 := Lib.hid k8
                     clear D1 k7 k8 g1 g2 g3)
                  | fail)
                all_goals
                  go_wp2
                  go_roundw
                  case rel =>
                    refine ⟨k + 1, _, _, ls ++ [⟨⟨nm, ⟨pk, pi, pt, pw⟩, 0⟩, x5, c5'⟩], by go_num, by omega, by rw [List.length_append, HLL.out]; rfl, ?_, Lib.hid HD.out.1, Lib.hid HD.out.2⟩
                    rw [List.map_append, HLX.out, HTK.out.1, List.map_append]
                    congr 1
                    show [_] = [_]
                    unfold dfltS
                    rw [HPV.out]
                  case measure => simp [intOf]; omega

              exact AllReadyH.nil
            exact AllReadyH.nil
          exact AllReadyH.nil
        exact AllReadyH.nil
      refine AllReadyH.cons rfl (fun K hK => ?_) ?_
      · skip
        go_simp
        (with_reducible refine (HC.out _).mono ?_)
        rintro e w6 ⟨rfl, hb6⟩
        obtain ⟨⟨a6, k6⟩, h6⟩ := HST.out w6 hb6
        obtain ⟨⟨aa, ka⟩, h6b⟩ := h6 (Obj.cells #[.string nm, .int .i64 kd, .int .i64 la, .int .i64 mo] 111)
        have KS6 := Lib.hid k6
        have KSa := Lib.hid ka
        have H6 := Lib.hid h6b
        have CN6 : Hid (∀ (j : Nat) (u : Value), (dCells ⟨nm, kd, dl, la, mo, le⟩)[j]? = some u → (w6.alloc (Obj.cells #[.string nm, .int .i64 kd, .int .i64 la, .int .i64 mo] 111)).cell? ⟨w6.heap.size, j, none⟩ = some u) := Lib.hid (cells_new w6 (dCells ⟨nm, kd, dl, la, mo, le⟩) _)
        clear hb6 k6 ka h6 h6b
        dsimp only
        refine hK.out _ _ ?_ (fun hH6 => ?_)
        · (try dsimp only); (first | exact ⟨k0, k1, k3, k4⟩ | exact KS6.out | exact KSa.out | exact KS7.out | exact KS8.out)
        clear hK K
        try simp only [Act.put, List.setIfInBounds_toArray, List.set_cons_zero, List.set_cons_succ]
        refine' wpAnyH_take (i := 14) rfl (by kernel_rfl) (by kernel_rfl) (by kernel_rfl) (fun _ _ _ h => h) (Or.inl ⟨by rfl, ?hy16⟩) (by assumption) ?rest16
        case hy16 => (intro w hSw; (try dsimp only at hSw); go_simp; (try with_reducible rfl))
        try simp only [Act.put, List.setIfInBounds_toArray]
        refine wpAnyH_ready (rs := [4, 15]) (by kernel_rfl) (by simp) ?_
        refine AllReadyH.cons rfl (fun K hK => ?_) ?_
        · skip
          go_simp
          refine hK.out _ _ ?_ (fun hH7 => ?_)
          · (try dsimp only); (first | exact ⟨k0, k1, k3, k4⟩ | exact KS6.out | exact KSa.out | exact KS7.out | exact KS8.out)
          clear hK K
          try simp only [Act.put, List.setIfInBounds_toArray, List.set_cons_zero, List.set_cons_succ]
          refine wpAnyH_ready (rs := [15]) (by kernel_rfl) (by simp) ?_
          refine AllReadyH.cons rfl (fun K hK => ?_) ?_
          · skip
            go_simp
            refine hK.out _ _ ?_ (fun hH8 => ?_)
            · (try dsimp only); (first | exact ⟨k0, k1, k3, k4⟩ | exact KS6.out | exact KSa.out | exact KS7.out | exact KS8.out)
            clear hK K
            try simp only [Act.put, List.setIfInBounds_toArray, List.set_cons_zero, List.set_cons_succ]
            refine wpAnyH_ready (rs := [16]) (by kernel_rfl) (by simp) ?_
            refine AllReadyH.cons rfl (fun K hK => ?_) ?_
            · skip
              refine stepD (W := w6.alloc (Obj.cells #[.string nm, .int .i64 kd, .int .i64 la, .int .i64 mo] 111)) rfl _ _ rfl H6.out.1 H6.out.2.1 (by omega) ⟨nm, kd, dl, la, mo, le⟩ rfl rfl CN6.out ?_
              intro y7 cap7 w7 g1 g2 g3
              obtain ⟨D1, ⟨u0, D5⟩, D6, k7, k8⟩ := H6.out.2.2 _ w7 g1 g2
              have HD := Lib.hid D1
              have KS7 := Lib.hid k7
              have KS8 := Lib.hid k8
              clear D1 k7 k8 g1 g2 g3
              refine hK.out _ _ ?_ (fun hH9 => ?_)
              · (try dsimp only); (first | exact ⟨k0, k1, k3, k4⟩ | exact KS6.out | exact KSa.out | exact KS7.out | exact KS8.out)
              clear hK K
              try simp only [Act.put, List.setIfInBounds_toArray]
              refine' wpAnyH_take (i := 17) rfl (by kernel_rfl) (by kernel_rfl) (by kernel_rfl) (fun _ _ _ h => h) (Or.inl ⟨by rfl, ?hy17⟩) (by assumption) ?rest17
              case hy17 => (intro w hSw; (try dsimp only at hSw); go_simp; (try with_reducible rfl))
              try simp only [Act.put]
              refine' wpAnyH_take (i := 18) rfl (by kernel_rfl) (by kernel_rfl) (by kernel_rfl) (fun _ _ _ h => h) (Or.inl ⟨by rfl, ?hy18⟩) (by assumption) ?rest18
              case hy18 => (intro w hSw; (try dsimp only at hSw); go_simp; (try with_reducible rfl))
              try simp only [Act.put]
              refine wpAnyH_ready (rs := [19]) (by kernel_rfl) (by simp) ?_
              refine AllReadyH.cons rfl (fun K hK => ?_) ?_
              · skip
                go_simp
                refine hK.out _ _ ?_ (fun hH10 => ?_)
                · (try dsimp only); (first | exact ⟨k0, k1, k3, k4⟩ | exact KS6.out | exact KSa.out | exact KS7.out | exact KS8.out)
                clear hK K
                try simp only [Act.put, List.setIfInBounds_toArray, List.set_cons_zero, List.set_cons_succ]
                refine wpAnyH_done (by kernel_rfl) ?_ _
                obtain ⟨W8, hW8⟩ : ∃ W, w7.setCell ⟨w.heap.size, 0, none⟩ (.slice (some ⟨y7, 0, none⟩) (k + 1) cap7) = W := ⟨_, rfl⟩
                have HD8 := HD.out
                rw [hW8] at HD8
                obtain ⟨hi8, hb8, hv8, ho8⟩ := HD8
                have HST2 : Hid (∀ o, ((W8.alloc o).cell? ⟨w.heap.size, 1, none⟩ = some hv ∧ Val4 (W8.alloc o).drew w5.heap.size pk pi pt (.slice x5 nw c5')) ∧ (W8.alloc o).drew.ownsRow w1.heap.size 107 5 hv k (hFlat ls) ∧ w1.heap.size ≤ (W8.alloc o).drew.heap.size ∧ ∀ hv' w10, w10.ownsRow w1.heap.size 107 5 hv' (k + 1) (hFlat ls ++ hCells ⟨⟨nm, ⟨pk, pi, pt, pw⟩, 0⟩, x5, c5'⟩) → (W8.alloc o).drew.grownBy w10 hv.ownBlock →
                    (DfIn w (w10.setCell ⟨w.heap.size, 1, none⟩ hv') w.heap.size w1.heap.size (.slice (some ⟨y7, 0, none⟩) (k + 1) cap7) hv' (ks.take (k + 1)) (ls ++ [⟨⟨nm, ⟨pk, pi, pt, pw⟩, 0⟩, x5, c5'⟩]) ∧ But w.heap.size w1 (w10.setCell ⟨w.heap.size, 1, none⟩ hv')) ∧ (∃ u, w10.cell? ⟨w.heap.size, 1, none⟩ = some u) ∧ w10.frozen? ⟨w.heap.size, 1, none⟩ = false ∧ Val4 w10 w5.heap.size pk pi pt (.slice x5 nw c5') ∧ Val4 (w10.setCell ⟨w.heap.size, 1, none⟩ hv') w5.heap.size pk pi pt (.slice x5 nw c5')) := Lib.hid fun o => by
                  have hbo : Below W8.heap.size W8 (W8.alloc o).drew := (below_drewN W8 1).trans (below_one W8.drew o)
                  have hi9 := hi8.after hbo
                  have hv9 := (hbo.block _ (heap_ltF hv8)).trans hv8
                  have hrow := hi9.hrow
                  rw [HLL.out] at hrow
                  refine ⟨⟨hi9.cells.2.1, val4 hv9⟩, hrow, hi9.base.2, fun hv' w10 h1 h2 => ?_⟩
                  have hd := hi9.held (hv' := hv') (m0 := ⟨⟨nm, ⟨pk, pi, pt, pw⟩, 0⟩, x5, c5'⟩) (ownT_block ho8 fun g hg => hbo.block g (heap_ltF hg)) (by rw [HLL.out]; exact h1) h2
                  have hX10 : w10.heap[w.heap.size]? = some (Obj.cells #[.slice (some ⟨y7, 0, none⟩) (k + 1) cap7, hv] 60) := (h2.block _ (heap_ltF hi9.obj) (fun e => own_ne hi9.hrow hi9.obj (by decide) e.symm)).trans hi9.obj
                  have hv10 := (h2.block _ (heap_ltF hv9) (fun e => own_ne hi9.hrow hv9 (by decide) e.symm)).trans hv9
                  refine ⟨⟨hd, (but_row (hb8.then_below hbo) hi9.hrow (Nat.le_refl _) h2).setCell 1 hv'⟩, ⟨_, cell_of_row w10 _ 1 _ _ _ hX10⟩, by simp [World.frozen?, hX10], val4 hv10, val4 (hi9.otherH h2 hv9 (by decide) (by decide))⟩
                obtain ⟨v0, v1, v2, v3⟩ := val4 hv8
                obtain ⟨_, x1, _⟩ := hi8.cells
                obtain ⟨⟨xa, va⟩, H9a⟩ := HST2.out (Obj.cells #[.int .i64 pk, .int .i64 pi, .string pt, .slice x5 nw c5', .int .i64 0] 107)
                have KVa := Lib.hid va
                have H9 := Lib.hid H9a
                have CN9 : Hid (∀ (j : Nat) (u : Value), (hCells ⟨⟨nm, ⟨pk, pi, pt, pw⟩, 0⟩, x5, c5'⟩)[j]? = some u → (W8.alloc (Obj.cells #[.int .i64 pk, .int .i64 pi, .string pt, .slice x5 nw c5', .int .i64 0] 107)).drew.cell? ⟨W8.heap.size, j, none⟩ = some u) := Lib.hid (by
                  have e : hCells ⟨⟨nm, ⟨pk, pi, pt, pw⟩, 0⟩, x5, c5'⟩ = [.int .i64 pk, .int .i64 pi, .string pt, .slice x5 nw c5', .int .i64 0] := by unfold hCells; rw [HNW.out]
                  rw [e]
                  exact cells_new W8 _ _)
                rw [hW8]
                clear HD hW8 hi8 hb8 hv8 ho8 HST2 va H9a KS6 KSa KS7 KS8 H6 CN6 HST HC
                go_wp2
                go_region_law (first
                  | (refine stepH (W := (W8.alloc (Obj.cells #[.int .i64 pk, .int .i64 pi, .string pt, .slice x5 nw c5', .int .i64 0] 107)).drew) rfl _ _ rfl H9.out.1 H9.out.2.1 (by omega) ⟨⟨nm, ⟨pk, pi, pt, pw⟩, 0⟩, x5, c5'⟩ rfl rfl CN9.out ?_
                     intro y10 cap10 w10 g1 g2 g3
                     obtain ⟨D1, ⟨u1, D5⟩, D6, k7, k8⟩ := H9.out.2.2 _ w10 g1 g2
                     have HD := Lib.hid D1
                     have KV7 := Lib.hid k7
                     have KV8 := Lib.hid k8
                     clear D1 k7 k8 g1 g2 g3)
                  | fail)
                all_goals
                  go_wp2
                  go_roundw
                  case rel =>
                    refine ⟨k + 1, _, _, ls ++ [⟨⟨nm, ⟨pk, pi, pt, pw⟩, 0⟩, x5, c5'⟩], by go_num, by omega, by rw [List.length_append, HLL.out]; rfl, ?_, Lib.hid HD.out.1, Lib.hid HD.out.2⟩
                    rw [List.map_append, HLX.out, HTK.out.1, List.map_append]
                    congr 1
                    show [_] = [_]
                    unfold dfltS
                    rw [HPV.out]
                  case measure => simp [intOf]; omega

              exact AllReadyH.nil
            exact AllReadyH.nil
          exact AllReadyH.nil
        refine AllReadyH.cons rfl (fun K hK => ?_) ?_
        · skip
          go_simp
          refine hK.out _ _ ?_ (fun hH11 => ?_)
          · (try dsimp only); (first | exact ⟨k0, k1, k3, k4⟩ | exact KS6.out | exact KSa.out | exact KS7.out | exact KS8.out)
          clear hK K
          try simp only [Act.put, List.setIfInBounds_toArray, List.set_cons_zero, List.set_cons_succ]
          refine wpAnyH_ready (rs := [4]) (by kernel_rfl) (by simp) ?_
          refine AllReadyH.cons rfl (fun K hK => ?_) ?_
          · skip
            go_simp
            refine hK.out _ _ ?_ (fun hH12 => ?_)
            · (try dsimp only); (first | exact ⟨k0, k1, k3, k4⟩ | exact KS6.out | exact KSa.out | exact KS7.out | exact KS8.out)
            clear hK K
            try simp only [Act.put, List.setIfInBounds_toArray, List.set_cons_zero, List.set_cons_succ]
            refine wpAnyH_ready (rs := [16]) (by kernel_rfl) (by simp) ?_
            refine AllReadyH.cons rfl (fun K hK => ?_) ?_
            · skip
              refine stepD (W := w6.alloc (Obj.cells #[.string nm, .int .i64 kd, .int .i64 la, .int .i64 mo] 111)) rfl _ _ rfl H6.out.1 H6.out.2.1 (by omega) ⟨nm, kd, dl, la, mo, le⟩ rfl rfl CN6.out ?_
              intro y7 cap7 w7 g1 g2 g3
              obtain ⟨D1, ⟨u0, D5⟩, D6, k7, k8⟩ := H6.out.2.2 _ w7 g1 g2
              have HD := Lib.hid D1
              have KS7 := Lib.hid k7
              have KS8 := Lib.hid k8
              clear D1 k7 k8 g1 g2 g3
              refine hK.out _ _ ?_ (fun hH13 => ?_)
              · (try dsimp only); (first | exact ⟨k0, k1, k3, k4⟩ | exact KS6.out | exact KSa.out | exact KS7.out | exact KS8.out)
              clear hK K
              try simp only [Act.put, List.setIfInBounds_toArray]
              refine' wpAnyH_take (i := 17) rfl (by kernel_rfl) (by kernel_rfl) (by kernel_rfl) (fun _ _ _ h => h) (Or.inl ⟨by rfl, ?hy19⟩) (by assumption) ?rest19
              case hy19 => (intro w hSw; (try dsimp only at hSw); go_simp; (try with_reducible rfl))
              try simp only [Act.put]
              refine' wpAnyH_take (i := 18) rfl (by kernel_rfl) (by kernel_rfl) (by kernel_rfl) (fun _ _ _ h => h) (Or.inl ⟨by rfl, ?hy20⟩) (by assumption) ?rest20
              case hy20 => (intro w hSw; (try dsimp only at hSw); go_simp; (try with_reducible rfl))
              try simp only [Act.put]
              refine wpAnyH_ready (rs := [19]) (by kernel_rfl) (by simp) ?_
              refine AllReadyH.cons rfl (fun K hK => ?_) ?_
              · skip
                go_simp
                refine hK.out _ _ ?_ (fun hH14 => ?_)
                · (try dsimp only); (first | exact ⟨k0, k1, k3, k4⟩ | exact KS6.out | exact KSa.out | exact KS7.out | exact KS8.out)
                clear hK K
                try simp only [Act.put, List.setIfInBounds_toArray, List.set_cons_zero, List.set_cons_succ]
                refine wpAnyH_done (by kernel_rfl) ?_ _
                obtain ⟨W8, hW8⟩ : ∃ W, w7.setCell ⟨w.heap.size, 0, none⟩ (.slice (some ⟨y7, 0, none⟩) (k + 1) cap7) = W := ⟨_, rfl⟩
                have HD8 := HD.out
                rw [hW8] at HD8
                obtain ⟨hi8, hb8, hv8, ho8⟩ := HD8
                have HST2 : Hid (∀ o, ((W8.alloc o).cell? ⟨w.heap.size, 1, none⟩ = some hv ∧ Val4 (W8.alloc o).drew w5.heap.size pk pi pt (.slice x5 nw c5')) ∧ (W8.alloc o).drew.ownsRow w1.heap.size 107 5 hv k (hFlat ls) ∧ w1.heap.size ≤ (W8.alloc o).drew.heap.size ∧ ∀ hv' w10, w10.ownsRow w1.heap.size 107 5 hv' (k + 1) (hFlat ls ++ hCells ⟨⟨nm, ⟨pk, pi, pt, pw⟩, 0⟩, x5, c5'⟩) → (W8.alloc o).drew.grownBy w10 hv.ownBlock →
                    (DfIn w (w10.setCell ⟨w.heap.size, 1, none⟩ hv') w.heap.size w1.heap.size (.slice (some ⟨y7, 0, none⟩) (k + 1) cap7) hv' (ks.take (k + 1)) (ls ++ [⟨⟨nm, ⟨pk, pi, pt, pw⟩, 0⟩, x5, c5'⟩]) ∧ But w.heap.size w1 (w10.setCell ⟨w.heap.size, 1, none⟩ hv')) ∧ (∃ u, w10.cell? ⟨w.heap.size, 1, none⟩ = some u) ∧ w10.frozen? ⟨w.heap.size, 1, none⟩ = false ∧ Val4 w10 w5.heap.size pk pi pt (.slice x5 nw c5') ∧ Val4 (w10.setCell ⟨w.heap.size, 1, none⟩ hv') w5.heap.size pk pi pt (.slice x5 nw c5')) := Lib.hid fun o => by
                  have hbo : Below W8.heap.size W8 (W8.alloc o).drew := (below_drewN W8 1).trans (below_one W8.drew o)
                  have hi9 := hi8.after hbo
                  have hv9 := (hbo.block _ (heap_ltF hv8)).trans hv8
                  have hrow := hi9.hrow
                  rw [HLL.out] at hrow
                  refine ⟨⟨hi9.cells.2.1, val4 hv9⟩, hrow, hi9.base.2, fun hv' w10 h1 h2 => ?_⟩
                  have hd := hi9.held (hv' := hv') (m0 := ⟨⟨nm, ⟨pk, pi, pt, pw⟩, 0⟩, x5, c5'⟩) (ownT_block ho8 fun g hg => hbo.block g (heap_ltF hg)) (by rw [HLL.out]; exact h1) h2
                  have hX10 : w10.heap[w.heap.size]? = some (Obj.cells #[.slice (some ⟨y7, 0, none⟩) (k + 1) cap7, hv] 60) := (h2.block _ (heap_ltF hi9.obj) (fun e => own_ne hi9.hrow hi9.obj (by decide) e.symm)).trans hi9.obj
                  have hv10 := (h2.block _ (heap_ltF hv9) (fun e => own_ne hi9.hrow hv9 (by decide) e.symm)).trans hv9
                  refine ⟨⟨hd, (but_row (hb8.then_below hbo) hi9.hrow (Nat.le_refl _) h2).setCell 1 hv'⟩, ⟨_, cell_of_row w10 _ 1 _ _ _ hX10⟩, by simp [World.frozen?, hX10], val4 hv10, val4 (hi9.otherH h2 hv9 (by decide) (by decide))⟩
                obtain ⟨v0, v1, v2, v3⟩ := val4 hv8
                obtain ⟨_, x1, _⟩ := hi8.cells
                obtain ⟨⟨xa, va⟩, H9a⟩ := HST2.out (Obj.cells #[.int .i64 pk, .int .i64 pi, .string pt, .slice x5 nw c5', .int .i64 0] 107)
                have KVa := Lib.hid va
                have H9 := Lib.hid H9a
                have CN9 : Hid (∀ (j : Nat) (u : Value), (hCells ⟨⟨nm, ⟨pk, pi, pt, pw⟩, 0⟩, x5, c5'⟩)[j]? = some u → (W8.alloc (Obj.cells #[.int .i64 pk, .int .i64 pi, .string pt, .slice x5 nw c5', .int .i64 0] 107)).drew.cell? ⟨W8.heap.size, j, none⟩ = some u) := Lib.hid (by
                  have e : hCells ⟨⟨nm, ⟨pk, pi, pt, pw⟩, 0⟩, x5, c5'⟩ = [.int .i64 pk, .int .i64 pi, .string pt, .slice x5 nw c5', .int .i64 0] := by unfold hCells; rw [HNW.out]
                  rw [e]
                  exact cells_new W8 _ _)
                rw [hW8]
                clear HD hW8 hi8 hb8 hv8 ho8 HST2 va H9a KS6 KSa KS7 KS8 H6 CN6 HST HC
                go_wp2
                go_region_law (first
                  | (refine stepH (W := (W8.alloc (Obj.cells #[.int .i64 pk, .int .i64 pi, .string pt, .slice x5 nw c5', .int .i64 0] 107)).drew) rfl _ _ rfl H9.out.1 H9.out.2.1 (by omega) ⟨⟨nm, ⟨pk, pi, pt, pw⟩, 0⟩, x5, c5'⟩ rfl rfl CN9.out ?_
                     intro y10 cap10 w10 g1 g2 g3
                     obtain ⟨D1, ⟨u1, D5⟩, D6, k7, k8⟩ := H9.out.2.2 _ w10 g1 g2
                     have HD := Lib.hid D1
                     have KV7 := Lib.hid k7
                     have KV8 := Lib.hid k8
                     clear D1 k7 k8 g1 g2 g3)
                  | fail)
                all_goals
                  go_wp2
                  go_roundw
                  case rel =>
                    refine ⟨k + 1, _, _, ls ++ [⟨⟨nm, ⟨pk, pi, pt, pw⟩, 0⟩, x5, c5'⟩], by go_num, by omega, by rw [List.length_append, HLL.out]; rfl, ?_, Lib.hid HD.out.1, Lib.hid HD.out.2⟩
                    rw [List.map_append, HLX.out, HTK.out.1, List.map_append]
                    congr 1
                    show [_] = [_]
                    unfold dfltS
                    rw [HPV.out]
                  case measure => simp [intOf]; omega

              exact AllReadyH.nil
            exact AllReadyH.nil
          exact AllReadyH.nil
        exact AllReadyH.nil
      exact AllReadyH.nil
    · obtain rfl : k = n := by omega
      have q2 : ¬ (k : Int) < k := by omega
      have HE : Hid (DfIn w wr w.heap.size w1.heap.size dv hv ks ls ∧ ls.map (·.x) = ks.map dfltS) := Lib.hid (by
        have h1 := HI.out
        have h2 := HLX.out
        rw [List.take_of_length_le (by rw [HN.out]; exact Nat.le_refl _)] at h1 h2
        exact ⟨h1, h2⟩)
      clear HI HK HLX HLL HPA HCL HN HKB
      go_wp2
      go_ret
      exact ⟨dv, hv, ls, rfl, ⟨_, HE.out.1⟩, HE.out.2⟩
end Go.Proofs.YtlcgfdijohgnpaaGreatDoor
