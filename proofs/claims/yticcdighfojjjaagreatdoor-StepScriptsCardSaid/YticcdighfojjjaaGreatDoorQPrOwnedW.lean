/-
  PrOwnedW.
-/
import Derived.Test.YticcdighfojjjaaGreatDoorQPrOwned
import Derived.Test.YticcdighfojjjaaGreatDoorQStpSame
namespace Go.Proofs.YticcdighfojjjaaGreatDoor
open Go.ChangeShapes Go.WideShapes Go.ChangeAt Go.RowKit

theorem mark_addP (k : Nat) : (⟨#[109, 97, 114, 107]⟩ : ByteArray) ++ ⟨#[UInt8.ofNat k, UInt8.ofNat (k / 256)]⟩ = markP k := rfl
theorem conv_bytes {W : World} {g : Nat} (a b : Nat) (x y : Int) (hx : x = ((a % 256 : Nat) : Int)) (hy : y = ((b % 256 : Nat) : Int)) (hb : W.heap[g]? = some (Obj.cells #[.int .u8 x, .int .u8 y] 5 (0, 0))) (n c : Nat) (hn : n = 2) : (convert 59 9 (.slice (some ⟨g, 0, none⟩) n c)).run Tryz.prog W = .ok (.string ⟨#[UInt8.ofNat a, UInt8.ofNat b]⟩) W :=
  ofBytes 9 59 5 _ g c n [UInt8.ofNat a, UInt8.ofNat b] hn Tryz.underlying9 Tryz.underlying59 Tryz.underlying5 fun j hj => by
    subst hx hy
    have h2 : j = 0 ∨ j = 1 := by simp at hj; omega
    refine ⟨?_, by unfold World.frozen?; rw [hb]; rfl⟩
    rw [cell_of_row _ _ j _ _ _ hb]
    rcases h2 with rfl | rfl
    · show some (Value.int .u8 ((a % 256 : Nat) : Int)) = some (b8 (UInt8.ofNat a))
      unfold b8
      rw [UInt8.toNat_ofNat']
    · show some (Value.int .u8 ((b % 256 : Nat) : Int)) = some (b8 (UInt8.ofNat b))
      unfold b8
      rw [UInt8.toNat_ofNat']
set_option maxHeartbeats 6400000 in
set_option maxRecDepth 100000 in
theorem powned_any (N B : Nat) (w : World) (L cl V cv : Nat) (X Y : Nat → Option Addr) (C D : Nat → Nat) (F : Nat → List PairV) (col : Nat → Nat) (h : CameP N B w L X C F col) (hv : LBP N w V (lvP Y F D)) (hy : ∀ k, k < N → PrsAt w (Y k) (F k)) (hN : N ≤ 2147483647) (hN0 : 0 < N) :
    Calls Tryz.prog 26 #[.slice (some ⟨L, 0, none⟩) N cl, .slice (some ⟨V, 0, none⟩) N cv] w fun e w' => e = .returned (.bool true) ∧ Below B w w' := by
  have H := Lib.hid h
  have HOB : Hid (∀ k, k < N → ∀ g, X k = some ⟨g, 0, none⟩ → B ≤ g) := Lib.hid fun k hk g hg => ((h.own k hk).lt g (by unfold lvP; rw [hg]; rfl)).1
  have HNP := Lib.hid hN0
  have HV := Lib.hid hv
  have HY := Lib.hid hy
  clear h hN0 hv hy
  go_enter Tryz.func26, Tryz.ntmps26
  go_wp2
  go_loopw [5] (fun i wr => ∃ k : Nat, i = .int .i64 k ∧ k ≤ N ∧ Hid (Below w.heap.size w wr)) (fun i _ => N - (intOf i).toNat)
  case atStart => exact ⟨0, rfl, by omega, Lib.hid (Below.refl _ _)⟩
  case round =>
    obtain ⟨k, rfl, hk, HW⟩ := hrel
    by_cases hlt : k < N
    · have q1 : (0 : Int) ≤ k := by omega
      have q2 : (k : Int) < N := by omega
      have c1 : wr.cell? ⟨L, k, none⟩ = some (.slice (X k) (F k).length (C k)) := (H.out.lb.below HW.out).cell hlt
      have c2 : wr.cell? ⟨V, k, none⟩ = some (.slice (Y k) (F k).length (D k)) := (HV.out.below HW.out).cell hlt
      have hlen := H.out.len k hlt
      have HSA : Hid (∀ W, Below w.heap.size w W → Calls Tryz.prog 27 #[.slice (X k) (F k).length (C k), .slice (Y k) (F k).length (D k)] W fun e w' => e = .returned (.bool true) ∧ Below W.heap.size W w') := Lib.hid fun W hb => by
        have := lsame_any (F k) (F k) (X k) (Y k) (F k).length (F k).length (C k) (D k) W ((H.out.lns hlt).below hb) ((HY.out k hlt).below hb) rfl rfl hlen
        rw [sameB_self] at this
        exact this
      generalize (F k).length = nk at c1 c2 HSA hlen
      generalize X k = xk at c1 HSA
      generalize Y k = yk at c2 HSA
      have HCC : Hid (∀ W, Below wr.heap.size wr W → W.cell? ⟨L, k, none⟩ = some (.slice xk nk (C k)) ∧ W.cell? ⟨V, k, none⟩ = some (.slice yk nk (D k))) := Lib.hid fun W hb => ⟨(hb.cell (lt_of_cell c1)).trans c1, (hb.cell (lt_of_cell c2)).trans c2⟩
      go_wp2
      go_region_held3 (fun W => W.cell? ⟨L, k, none⟩ = some (.slice xk nk (C k)) ∧ W.cell? ⟨V, k, none⟩ = some (.slice yk nk (D k))) (first | exact ⟨c1, c2⟩ | exact z5) (first | (go_at_call 27; (with_reducible refine (HSA.out _ (HW.out.trans ((below_d wr).mono HW.out.size))).mono ?_); rintro e w5 ⟨rfl, hb5⟩; have z5 := HCC.out w5 ((below_d wr).trans (hb5.mono (Nat.le_refl _)))))
      all_goals
        have HW2 := Lib.hid (HW.out.trans (((below_d wr).trans (hb5.mono (Nat.le_refl _))).mono HW.out.size))
        clear z5 hb5 HSA HCC c1 c2
        go_wp2
        go_roundw
        case rel => exact ⟨k + 1, by go_num, by omega, HW2⟩
        case measure => simp [intOf]; omega
    · have HM := Lib.hid (H.out.start HW.out)
      have q2 : ¬ (k : Int) < N := by omega
      have HBZ := Lib.hid H.out.size
      clear HW
      go_wp2
      go_loopw [7] (fun i wr => ∃ k : Nat, i = .int .i64 k ∧ k ≤ N ∧ Hid (MkdP N B w wr L X C F col k 0)) (fun i _ => N - (intOf i).toNat)
      case atStart => exact ⟨0, rfl, by omega, HM⟩
      case round =>
        clear HM q2
        obtain ⟨p, rfl, hp, HM⟩ := hrel
        by_cases hlp : p < N
        · have q1 : (0 : Int) ≤ p := by omega
          have q2 : (p : Int) < N := by omega
          go_wp2
          go_loopw [8] (fun i wq => ∃ j : Nat, i = .int .i64 j ∧ j ≤ (F p).length ∧ Hid (MkdP N B w wq L X C F col p j)) (fun i _ => (F p).length - (intOf i).toNat)
          case atStart => exact ⟨0, rfl, by omega, HM⟩
          case round =>
            clear HM
            obtain ⟨j, rfl, hj, HM⟩ := hrel
            have hlen := H.out.len p hlp
            have c1 : wr.cell? ⟨L, p, none⟩ = some (.slice (X p) (F p).length (C p)) := HM.out.lb.cell hlp
            by_cases hjt : j < (F p).length
            · obtain ⟨x8, hx8⟩ : ∃ x : Int, x = ((p % 256 : Nat) : Int) := ⟨_, rfl⟩
              obtain ⟨x9, hx9⟩ : ∃ x : Int, x = ((p / 256 % 256 : Nat) : Int) := ⟨_, rfl⟩
              obtain ⟨OB, hOB⟩ : ∃ OB, Obj.cells #[.int .u8 x8, .int .u8 x9] 5 (0, 0) = OB := ⟨_, rfl⟩
              have HMA := HM.out.below' HBZ.out (below_one wr OB)
              obtain ⟨g, va, vb, vc, hX, g0, g1, g2, hf, hM⟩ := HMA.mark hlp hjt (HOB.out p hlp)
              have HN := Lib.hid (hM.below' HBZ.out (below_d _))
              have f0 := hf (j * 3)
              have f1 := hf (j * 3 + 1)
              have f2 := hf (j * 3 + 2)
              have c1a : (wr.alloc OB).cell? ⟨L, p, none⟩ = some (.slice (X p) (F p).length (C p)) := (HM.out.below' HBZ.out (below_one wr OB)).lb.cell hlp
              have hcv := conv_bytes p (p / 256) x8 x9 hx8 hx9 (W := (wr.alloc OB)) (g := wr.heap.size) (by rw [← hOB]; exact heap_alloc_new _ _) 2 2 rfl
              have hcvd := conv_bytes p (p / 256) x8 x9 hx8 hx9 (W := (wr.alloc OB).drew) (g := wr.heap.size) (by rw [← hOB]; exact heap_alloc_new _ _) 2 2 rfl
              subst hOB
              clear hM hf HMA
              rw [hX] at c1 c1a
              obtain ⟨n, hn⟩ : ∃ n, (F p).length = n := ⟨_, rfl⟩
              rw [hn] at c1 c1a hjt hlen
              have q3 : (0 : Int) ≤ j := by omega
              have q4 : (j : Int) < n := by omega
              have hma := mark_addP p
              have hw8 : IntKind.u8.wrap (p : Int) = x8 := by rw [IntKind.wrap_u8, hx8]; omega
              have hw9 : IntKind.u8.wrap ((p : Int) / 256) = x9 := by rw [IntKind.wrap_u8, hx9]; omega
              clear hX hx8 hx9
              go_wp2
              go_region
              all_goals
                go_wp2
                go_roundw
                case rel => exact ⟨j + 1, by go_num, by omega, HN⟩
                case measure => simp [intOf]; omega
            · have HN := Lib.hid (by have h := HM.out; rw [show j = (F p).length by omega] at h; exact h.next)
              obtain ⟨n, hn⟩ : ∃ n, (F p).length = n := ⟨_, rfl⟩
              rw [hn] at c1 hjt hlen
              have q4 : ¬ (j : Int) < n := by omega
              clear HM
              go_wp2
              go_roundw
              case rel => exact ⟨p + 1, by go_num, by omega, HN⟩
              case measure => simp [intOf]; omega
        · have HG : Hid (∃ vs col', GrwP N B w wr wr.heap.size L X C F 0 (.slice none 0 0) vs col') := Lib.hid (by have h := HM.out; rw [show p = N by omega] at h; exact ⟨[], col, h.grw HBZ.out⟩)
          have q2 : ¬ (p : Int) < N := by omega
          clear HM
          obtain ⟨B2, hB2⟩ : ∃ B2, wr.heap.size = B2 := ⟨_, rfl⟩
          rw [hB2] at HG
          clear hB2
          obtain ⟨wy, hwy⟩ : ∃ wy, wy = wr := ⟨_, rfl⟩
          subst hwy
          go_wp2
          go_loopw [9, 10] (fun a i wr => ∃ k : Nat, i = .int .i64 k ∧ k ≤ N ∧ Hid (∃ vs col', GrwP N B w wr B2 L X C F (4 * k) a vs col')) (fun _ i _ => N - (intOf i).toNat)
          case atStart => exact ⟨0, rfl, by omega, HG⟩
          case round =>
            clear HG q2
            obtain ⟨q, rfl, hq, HG⟩ := hrel
            by_cases hlq : q < N
            · have c1 : wr.cell? ⟨L, q, none⟩ = some (.slice (X q) (F q).length (C q)) := by
                obtain ⟨vs, col', h⟩ := HG.out
                exact h.lb.cell hlq
              have HN : Hid (∃ vs col', GrwP N B w wr B2 L X C F (4 * q + 0) _ vs col' ∧ NowP B wr col' q 0 (X q) (F q).length (C q)) := Lib.hid (by
                obtain ⟨vs, col', h⟩ := HG.out
                exact ⟨vs, col', h, h.now hlq (H.out.len q hlq) (HOB.out q hlq)⟩)
              have q1 : (0 : Int) ≤ q := by omega
              have q2 : (q : Int) < N := by omega
              clear HG
              go_wp2
              go_loopw [9, 11, 12] (fun a x j wq => ∃ (m : Nat) (xa : Option Addr) (len c : Nat), j = .int .i64 m ∧ x = .slice xa len c ∧ m ≤ 4 ∧ Hid (∃ vs col', GrwP N B w wq B2 L X C F (4 * q + m) a vs col' ∧ NowP B wq col' q m xa len c)) (fun _ _ j _ => 4 - (intOf j).toNat)
              case atStart => exact ⟨0, _, _, _, rfl, rfl, by omega, HN⟩
              case round =>
                clear HN
                rename_i al0 x0 j0
                obtain ⟨m, xa, len, c, rfl, rfl, hm, HN⟩ := hrel
                by_cases hmt : m < 4
                · obtain ⟨vs, col', hG, hN⟩ := HN.out
                  have HG := Lib.hid hG
                  have HNN := Lib.hid hN
                  obtain ⟨x8, hx8⟩ : ∃ x : Int, x = ((q % 256 : Nat) : Int) := ⟨_, rfl⟩
                  obtain ⟨x9, hx9⟩ : ∃ x : Int, x = ((q / 256 % 256 : Nat) : Int) := ⟨_, rfl⟩
                  have hw8 : IntKind.u8.wrap (q : Int) = x8 := by rw [IntKind.wrap_u8, hx8]; omega
                  have hw9 : IntKind.u8.wrap ((q : Int) / 256) = x9 := by rw [IntKind.wrap_u8, hx9]; omega
                  have hcv := fun W : World => conv_bytes q (q / 256) x8 x9 hx8 hx9 (W := (W.alloc (Obj.cells #[.int .u8 x8, .int .u8 x9] 5 (0, 0)))) (g := W.heap.size) (heap_alloc_new _ _) 2 2 rfl
                  have hma := mark_addP q
                  have q3 : (0 : Int) ≤ m := by omega
                  have q4 : (m : Int) < 4 := by omega
                  clear hG hN HN c1 hx8 hx9
                  go_wp2_with (at_builtin; first
                    | (refine appendLP rfl _ _ rfl HG.out.all HG.out.b3 (by omega) rfl rfl rfl ?_; intro g cap w3 hown hgrow; have HG2 := Lib.hid (HG.out.push HNN.out (by omega) (by omega) hgrow hown); clear hown hgrow)
                    | (go_loud (refine appendMP rfl _ _ rfl (HG2.out.2.below' (below_one _ _)) (Nat.le_trans HG2.out.1.b1 (Nat.le_trans HG2.out.1.b3 (below_one _ _).size)) (by omega) rfl (by simp) rfl ?_; intro x' l2 c2 w2 col2 hn2 he2 hh2 hb2; have HN2 : Hid (∃ vs col', GrwP N B w w2 B2 L X C F (4 * q + (m + 1)) _ vs col' ∧ NowP B w2 col' q (m + 1) x' l2 c2) := Lib.hid ⟨_, _, (HG2.out.1.below' HBZ.out (below_one _ _)).grow hb2 he2 hh2, hn2⟩; clear hn2 he2 hh2 hb2)))
                  go_roundw
                  case rel => exact ⟨m + 1, x', l2, c2, by go_num, rfl, by omega, HN2⟩
                  case measure => simp [intOf]; omega
                · have q4 : ¬ (m : Int) < 4 := by omega
                  go_wp2
                  go_roundw
                  case rel => exact ⟨q + 1, by go_num, by omega, Lib.hid (by
                    obtain ⟨vs, col', h1, _⟩ := HN.out
                    rw [show 4 * q + m = 4 * (q + 1) by omega] at h1
                    exact ⟨vs, col', h1⟩)⟩
                  case measure => simp [intOf]; omega
            · obtain ⟨vs, col', hG⟩ := HG.out
              rw [show 4 * q = 4 * N by omega] at hG
              have hG0 := hG.all
              obtain ⟨A, cap, hal, hAl, hcells⟩ := row_form hG0 (by have := HNP.out; omega)
              have HA : Hid (∀ t, t < 4 * N → ∃ x len c, wr.cell? ⟨A, t, none⟩ = some (.slice x len c) ∧ len ≤ 2147483700 ∧ Ent wr 51 3 mkPr col' (t / 4) (.slice x len c) len) := Lib.hid fun t ht => by
                have hlen : vs.length = 4 * N := by have := hG.all.1; omega
                obtain ⟨x, len, c, e, hl, he⟩ := hG.ents t vs[t] (List.getElem?_eq_getElem (by omega))
                have hc := hcells t vs[t] (List.getElem?_eq_getElem (by omega))
                exact ⟨x, len, c, by rw [hc, e], hl, by rw [← e]; exact he⟩
              have HB0 := Lib.hid hG.below
              have HBB := Lib.hid (Nat.le_trans hG.b1 hG.b3)
              have q2 : ¬ (q : Int) < N := by omega
              clear HG hG hG0 hcells
              subst hal
              obtain ⟨M, hM⟩ : ∃ M, 4 * N = M := ⟨_, rfl⟩
              have hMl : M ≤ 8589934588 := by omega
              rw [hM] at HA ⊢
              clear hM
              obtain ⟨w2, hw2⟩ : ∃ w2, w2 = wr := ⟨_, rfl⟩
              subst hw2
              go_wp2
              go_loopw [13] (fun i wr => ∃ t : Nat, i = .int .i64 t ∧ t ≤ M ∧ Hid (Below w2.heap.size w2 wr)) (fun i _ => M - (intOf i).toNat)
              case atStart => exact ⟨0, rfl, by omega, Lib.hid (Below.refl _ _)⟩
              case round =>
                clear q2
                obtain ⟨t, rfl, ht, HW⟩ := hrel
                by_cases htt : t < M
                · obtain ⟨x, len, c, hc, hle, he⟩ := HA.out t htt
                  have c1 := (HW.out.cell (p := ⟨A, t, none⟩) hAl).trans hc
                  have HE := Lib.hid he
                  have HC := Lib.hid hc
                  have q5 : (0 : Int) ≤ t := by omega
                  have q6 : (t : Int) < M := by omega
                  obtain ⟨z, hz⟩ : ∃ z, t / 4 = z := ⟨_, rfl⟩
                  have hqi : (t : Int) / 4 = z := by omega
                  have hqt : (t : Int).tdiv 4 = z := by rw [Int.tdiv_eq_ediv_of_nonneg q5]; exact hqi
                  have hqw : IntKind.i64.wrap (z : Int) = z := IntWalk.i64_in _ (by omega)
                  rw [hz] at HE
                  clear hc he hz
                  go_wp2
                  go_loopw [15] (fun j wq => ∃ m : Nat, j = .int .i64 m ∧ m ≤ len ∧ Hid (Below w2.heap.size w2 wq)) (fun j _ => len - (intOf j).toNat)
                  case atStart => exact ⟨0, rfl, by omega, HW⟩
                  case round =>
                    clear HW c1 hqi hqt hqw
                    obtain ⟨m, rfl, hm, HW⟩ := hrel
                    by_cases hmt : m < len
                    · obtain ⟨g, rfl, hg, hc⟩ := HE.out.cellsP hmt
                      obtain ⟨x8, hx8⟩ : ∃ x : Int, x = ((z % 256 : Nat) : Int) := ⟨_, rfl⟩
                      obtain ⟨x9, hx9⟩ : ∃ x : Int, x = ((z / 256 % 256 : Nat) : Int) := ⟨_, rfl⟩
                      obtain ⟨OB, hOB⟩ : ∃ OB, Obj.cells #[.int .u8 x8, .int .u8 x9] 5 (0, 0) = OB := ⟨_, rfl⟩
                      have hw8 : IntKind.u8.wrap (z : Int) = x8 := by rw [IntKind.wrap_u8, hx8]; omega
                      have hw9 : IntKind.u8.wrap ((z : Int) / 256) = x9 := by rw [IntKind.wrap_u8, hx9]; omega
                      have hcv := conv_bytes z (z / 256) x8 x9 hx8 hx9 (W := (wr.alloc OB)) (g := wr.heap.size) (by rw [← hOB]; exact heap_alloc_new _ _) 2 2 rfl
                      have hcvd := conv_bytes z (z / 256) x8 x9 hx8 hx9 (W := (wr.alloc OB).drew) (g := wr.heap.size) (by rw [← hOB]; exact heap_alloc_new _ _) 2 2 rfl
                      have hma := mark_addP z
                      have he : ((markP z).toList == (markP z).toList) = true := by simp
                      have c1 : wr.cell? ⟨A, t, none⟩ = some (.slice (some ⟨g, 0, none⟩) len c) := (HW.out.cell (p := ⟨A, t, none⟩) hAl).trans HC.out
                      have k1 : wr.cell? ⟨g, m * 3 + 1, none⟩ = some (.string (markP z)) := (HW.out.cell (p := ⟨g, m * 3 + 1, none⟩) hg).trans (hc 1 (by decide))
                      have c1a : (wr.alloc OB).cell? ⟨A, t, none⟩ = some (.slice (some ⟨g, 0, none⟩) len c) := ((below_one wr OB).cell (lt_of_cell c1)).trans c1
                      have k1a : (wr.alloc OB).cell? ⟨g, m * 3 + 1, none⟩ = some (.string (markP z)) := ((below_one wr OB).cell (lt_of_cell k1)).trans k1
                      have HW2 := Lib.hid ((HW.out.trans ((below_one wr OB).mono HW.out.size)).drew)
                      have q7 : (0 : Int) ≤ m := by omega
                      have q8 : (m : Int) < len := by omega
                      subst hOB
                      clear hc hx8 hx9
                      go_wp2
                      go_region
                      all_goals
                        go_wp2
                        go_roundw
                        case rel => exact ⟨m + 1, by go_num, by omega, HW2⟩
                        case measure => simp [intOf]; omega
                    · have c1 : wr.cell? ⟨A, t, none⟩ = some (.slice x len c) := (HW.out.cell (p := ⟨A, t, none⟩) hAl).trans HC.out
                      have q8 : ¬ (m : Int) < len := by omega
                      go_wp2
                      go_roundw
                      case rel => exact ⟨t + 1, by go_num, by omega, HW⟩
                      case measure => simp [intOf]; omega
                · have q6 : ¬ (t : Int) < M := by omega
                  go_wp2
                  go_ret
                  exact ⟨rfl, HB0.out.trans (HW.out.mono HBB.out)⟩
end Go.Proofs.YticcdighfojjjaaGreatDoor
