/-
  FlagLaw.
-/
import Derived.Test.YtbgoooljkdjjhaaGreatDoorQFlagAwake
import Derived.Deep.RegionHeld3
import Derived.Laws.OwnMore
namespace Go.Proofs.YtbgoooljkdjjhaaGreatDoor
open Go.ChangeShapes Go.WideShapes Go.ChangeAt Go.RowKit

def wGiv (g : GivV) : Nat := g.name.size + 20 + 4 * g.text.size
def wG (gs : List GivV) : Nat := (gs.map wGiv).sum
theorem wG_snoc (ls : List GivV) (l : GivV) : wG (ls ++ [l]) = wG ls + wGiv l := by unfold wG; simp
theorem wG_take (ls : List GivV) (k : Nat) : wG (ls.take k) ≤ wG ls := by
  conv => rhs; rw [← List.take_append_drop k ls]
  unfold wG
  rw [List.map_append, List.sum_append]; omega
theorem wG_mem {ls : List GivV} {l : GivV} (h : l ∈ ls) : wGiv l ≤ wG ls := by
  induction ls with
  | nil => cases h
  | cons a r ih =>
    have e : wG (a :: r) = wGiv a + wG r := by unfold wG; simp
    rw [e]
    rcases List.mem_cons.1 h with rfl | h
    · omega
    · have := ih h; omega
theorem wG_len (ls : List GivV) : ls.length * 20 ≤ wG ls := by
  induction ls with
  | nil => simp
  | cons a r ih =>
    have e : wG (a :: r) = wGiv a + wG r := by unfold wG; simp
    rw [e]
    unfold wGiv
    simp only [List.length_cons]; omega
theorem wK_len (ls : List KeyV) : ls.length * 200 ≤ wK ls := by
  induction ls with
  | nil => simp
  | cons a r ih =>
    have e : wK (a :: r) = wKey a + wK r := by unfold wK; simp
    rw [e]
    unfold wKey
    simp only [List.length_cons]; omega
theorem wgiv_step {n a b : Nat} : addJ (capJ n) (addJ (addJ a 20) (4 * min (b : Int) 2147483647)) = capJ (n + (a + 20 + 4 * b)) := by
  unfold capJ
  rw [addJ_cap (n := (a : Int)) (m := 20), addJ_cap (n := min ((a : Int) + 20) 2147483648), addJ_cap]
  omega
theorem elemGv : Tryz.prog.underlying 23 = some (.slice (Tryz.prog.elem 23)) := by kernel_rfl
theorem sizeGv (w : World) : (sizeOf (Tryz.prog.elem 23)).run Tryz.prog w = .ok 3 w := by kernel_rfl
theorem gslice_to (b off n c k : Nat) (hk : k ≤ c) (W : World) : (Instr.slice 23 (.slice (some ⟨b, off, none⟩) n c) none (some (.int .i64 (k : Int))) none).run Tryz.prog W = .ok (.slice (some ⟨b, off, none⟩) k c) W := by
  rw [run_slice_h W _ _ _ _ elemGv .i64 (k : Int) (by omega) (by omega), sizeGv]
  show Result.ok (sliced _ _ _ _ _) W = _
  unfold sliced
  congr 2
  split
  · rfl
  · simp [Addr.add]
def mG : GivV := ⟨⟨#[]⟩, ⟨#[]⟩, -7⟩
theorem gFlat_at_ (ls : List GivV) (k : Nat) (hk : k < ls.length) (v : Int) : (gFlat ls).set (k * 3 + 2) (.int .i64 v) = gFlat (ls.set k ⟨ls[k].name, ls[k].text, v⟩) := by
  rw [← gFlat_put ls k hk]
  have h0 := gFlat_at ls k hk 0 (by decide)
  have h1 := gFlat_at ls k hk 1 (by decide)
  have hl := gFlat_len ls
  rw [Nat.add_zero] at h0
  rw [set_same_at _ (k * 3) _ (by rw [h0]; rfl), set_same_at _ (k * 3 + 1) _ (by rw [h1]; rfl)]
/-- The owner's row, its last one marked. -/
theorem own_mark (W : World) (G : Nat) (gs : List GivV) (hR : RowG W G (gs ++ List.replicate 1 zG)) :
    (W.cell? ⟨G, gs.length * 3 + 2, none⟩ = some (.int .i64 0) ∧ W.frozen? ⟨G, gs.length * 3 + 2, none⟩ = false) ∧ RowG (W.setCell ⟨G, gs.length * 3 + 2, none⟩ (.int .i64 (-7))) G (gs ++ [mG]) := by
  have hk : gs.length < (gs ++ List.replicate 1 zG).length := by simp
  have hg : (gs ++ List.replicate 1 zG)[gs.length] = zG := by rw [List.getElem_append_right (Nat.le_refl _)]; simp
  refine ⟨⟨by rw [hR.at2 hk, hg]; rfl, hR.frozen _⟩, ?_⟩
  unfold RowG
  rw [hR.set1, gFlat_at_ _ _ hk, hg]
  congr 4
  rw [List.set_append_right _ _ (Nat.le_refl _)]
  simp [mG, zG]
theorem own_back (W : World) (G : Nat) (gs : List GivV) (hR : RowG W G (gs ++ [mG])) : Givs W (some ⟨G, 0, none⟩) gs ∧ W.cell? ⟨G, gs.length * 3 + 2, none⟩ = some (.int .i64 (-7)) := by
  refine ⟨?_, ?_⟩
  · have := hR.givs.take gs.length
    rwa [List.take_left] at this
  · rw [hR.at2 (k := gs.length) (by simp), List.getElem_append_right (Nat.le_refl _)]; simp [mG]
theorem printA_perm {xs ys : List KeyV} (h : ys.Perm xs) (gs : List GivV) : printA ys gs = printA xs gs := by
  unfold printA
  simp only [hasK_perm h]
theorem OwnX.tx {w0 w : World} {x : Option Addr} {n c : Nat} {ts : List ByteArray} (h : OwnX w0 w (.slice x n c) ts) : TxAt w x ts := by
  obtain ⟨x', c', e, ht⟩ := h.texts
  injection e with e1 _ _
  rw [e1]; exact ht
theorem TxAt.other {w w' : World} {x : Option Addr} {ts : List ByteArray} {q : Option Nat} (h : TxAt w x ts) (hg : w.grownBy w' q) (hne : ∀ b off, x = some ⟨b, off, none⟩ → q ≠ some b) : TxAt w' x ts := fun k hk => by
  obtain ⟨b, off, e, hl, hc⟩ := h k hk
  exact ⟨b, off, e, Nat.lt_of_lt_of_le hl hg.size, (cell_blk (hg.block b hl (fun e' => hne b off e e'.symm)) (off + k)).trans hc⟩
/-- Where a list of a call's own lies. -/
theorem OwnX.new {w0 w : World} {x : Option Addr} {n c : Nat} {ts : List ByteArray} (h : OwnX w0 w (.slice x n c) ts) : ∀ b off, x = some ⟨b, off, none⟩ → w0.heap.size ≤ b ∧ b < w.heap.size := fun b off e => by
  subst e
  exact h.own.lt b rfl
theorem OwnX.form {w0 w : World} {x : Option Addr} {n c : Nat} {ts : List ByteArray} (h : OwnX w0 w (.slice x n c) ts) (hn : 0 < n) : ∃ g, x = some ⟨g, 0, none⟩ ∧ ts.length = n := by
  rcases h.own.2 with ⟨h1, h2⟩ | ⟨g, cap, cur, h1, _⟩
  · injection h1 with _ h3 _
    omega
  · injection h1 with h3 h4 _
    exact ⟨g, h3, h4.symm⟩
/-- A text of a list of a call's own is written over. -/
theorem OwnX.put {w0 w : World} {g n c : Nat} {ts : List ByteArray} (h : OwnX w0 w (.slice (some ⟨g, 0, none⟩) n c) ts) (hn : ts.length = n) (j : Nat) (hj : j < n) (u : ByteArray) :
    (∃ a, w.cell? ⟨g, j, none⟩ = some a) ∧ w.frozen? ⟨g, j, none⟩ = false ∧ OwnX w0 (w.setCell ⟨g, j, none⟩ (.string u)) (.slice (some ⟨g, 0, none⟩) n c) (ts.set j u) ∧ w.grownBy (w.setCell ⟨g, j, none⟩ (.string u)) (some g) := by
  subst hn
  have ho := h.own
  have hc := ho.cellAt j (by omega)
  obtain ⟨h1, h2⟩ := ho.stored j (.string u)
  refine ⟨⟨_, hc.trans (List.getElem?_eq_getElem (by simpa using hj))⟩, ho.frozenAt j, ⟨?_, h.below.setCell (p := ⟨g, j, none⟩) (h.new g 0 rfl).1 _⟩, h2⟩
  rw [List.length_set, List.map_set]
  exact h1
theorem own_apart {w0 w1 w1' w2 : World} {x1 x2 : Option Addr} {n c m d : Nat} {ts us : List ByteArray} (h1 : OwnX w0 w1 (.slice x1 n c) ts) (h2 : OwnX w1' w2 (.slice x2 m d) us) (hle : w1.heap.size ≤ w1'.heap.size) : ∀ b off, x2 = some ⟨b, off, none⟩ → (Value.slice x1 n c).ownBlock ≠ some b := fun b off e hq => by
  have := (h1.own.lt b hq).2
  have := (h2.new b off e).1
  omega
/-- As appendX, and what else stays. -/
theorem appendX2 {ops : Array Oper} {rest : List Oper} {o : Oper} {a : Act} {Q : Exit → Act → World → Prop} (hgd : o.guard = none) (s x : Operand)
    (ho : o.op = .call { callee := .builtin .append, args := #[s, x], argTypes := #[33, 33] }) {w0 w : World} {v : Value} {t : ByteArray} {ts : List ByteArray} (hown : OwnX w0 w v ts) (hn : ts.length ≤ 10000000000) (hs : a.eval s = v)
    {c g : Nat} (hx : a.eval x = .slice (some ⟨g, 0, none⟩) 1 c) (hg : g = w.heap.size)
    (h : ∀ y cap w', OwnX w0 w' (.slice (some ⟨y, 0, none⟩) (ts.length + 1) cap) (ts ++ [t]) → (w.alloc (Obj.cells #[.string t] 9)).grownBy w' v.ownBlock → wpList Tryz.prog ops Q rest (a.put o.dst (.slice (some ⟨y, 0, none⟩) (ts.length + 1) cap)) w') :
    wpList Tryz.prog ops Q (o :: rest) a (w.alloc (Obj.cells #[.string t] 9)) := by
  subst hg
  obtain ⟨i0, hi, hz0, hz1, hz2⟩ := info_parts infoTx
  have hz := hown.below.size
  refine wpList_append_lies _ hgd s x _ ho w0.heap.size 9 i0 _ 1 16 Tryz.underlying33 hi hz0 hz1 hz2 rfl (by decide) v ts.length (ts.map Value.string) hs (hown.own.alloc _) ⟨w.heap.size, 0, none⟩ 1 c [.string t] hx rfl (World.news_of_block (heap_alloc_new w _)) ?_ (by decide) (by unfold maxLen; omega) (by omega) (by have := (below_one w (Obj.cells #[.string t] 9)).size; omega) _ rfl ?_
  · intro u' hu'
    rw [List.mem_singleton.1 hu']; rfl
  · intro y cap w1 h1 h2 _ _
    exact h y cap w1 ⟨by simpa using h1, (hown.below.alloc hz _).grown h2 (by simp; omega) (fun k hk => (hown.own.lt k hk).1)⟩ h2
set_option maxHeartbeats 3200000 in
set_option maxRecDepth 100000 in
theorem flagPrints_any (which : Int) (xk : Option Addr) (ck : Nat) (ls : List KeyV) (x : Option Addr) (c : Nat) (gs : List GivV) (w : World) (hw : -9223372036854775808 ≤ which ∧ which ≤ 9223372036854775807)
    (hK : KeysAt w xk ls) (hkn : ls.length ≤ maxLen) (hkz : ∀ l ∈ ls, l.name.size ≤ maxLen ∧ l.dflt.size ≤ maxLen ∧ l.letter.size ≤ maxLen)
    (hG : Givs w x gs) (hgn : gs.length ≤ maxLen) (hgz : ∀ g ∈ gs, g.name.size ≤ maxLen ∧ g.text.size ≤ maxLen) (hT : Tab w) (hU : Units w) (hM : MaxI w) :
    Calls Tryz.prog 3 #[.int .i64 which, .slice xk ls.length ck, .slice x gs.length c] w fun e w' => e = .returned (.bool true) ∧ Below w.heap.size w w' := by
  have HWK := Lib.hid (fweight_any xk ck ls w hK hkn hkz)
  have HG := Lib.hid hG
  have HGZ := Lib.hid hgz
  have HKZ := Lib.hid hkz
  have HK := Lib.hid hK
  have HMX : Hid (∀ W, Below w.heap.size w W → Tab W ∧ Units W ∧ MaxI W) := Lib.hid fun W hb => ⟨hT.below hb, hU.below hb, hM.below hb⟩
  unfold maxLen at hgn
  obtain ⟨n, hn'⟩ : ∃ n, gs.length = n := ⟨_, rfl⟩
  have HN := Lib.hid hn'
  obtain ⟨nk, hnk'⟩ : ∃ nk, ls.length = nk := ⟨_, rfl⟩
  have HNK := Lib.hid hnk'
  obtain ⟨W0, hW0⟩ : ∃ W0, wK ls = W0 := ⟨_, rfl⟩
  have HW0 := Lib.hid hW0
  have hi0 := capJ_in W0
  rw [hn'] at hgn ⊢
  rw [hnk', hW0] at HWK
  rw [hnk']
  have H0 : Hid (capJ W0 = capJ (W0 + wG (gs.take 0))) := Lib.hid (by rw [List.take_zero]; rfl)
  obtain ⟨m0, hm0⟩ : ∃ m0, capJ W0 = m0 := ⟨_, rfl⟩
  rw [hm0] at HWK H0 hi0
  obtain ⟨hi1, hi2⟩ := hi0
  clear hK hkn hkz hG hgz hT hU hM hn' hnk' hW0 hm0
  go_enter Tryz.func3, Tryz.ntmps3
  go_wp2_with fail
  refine HWK.out.mono ?_
  rintro e w1 ⟨rfl, hb1⟩
  have HB1 := Lib.hid hb1
  clear hb1 HWK
  go_wp2
  go_loopw [7, 8] (fun r i wr => ∃ (t : Nat) (m : Int), r = .int .i64 m ∧ i = .int .i64 t ∧ t ≤ n ∧ 0 ≤ m ∧ m ≤ 2147483648 ∧ Hid (m = capJ (W0 + wG (gs.take t))) ∧ Hid (Below w.heap.size w wr)) (fun _ i _ => n - (intOf i).toNat)
  case atStart => exact ⟨0, m0, rfl, rfl, by omega, hi1, hi2, H0, HB1⟩
  case round =>
    clear H0 hi1 hi2 HB1
    obtain ⟨t, m, rfl, rfl, ht, hm0, hm1, HM, HW⟩ := hrel
    by_cases hlt : t < n
    · have q2 : (0 : Int) ≤ t := by omega
      have q3 : (t : Int) < n := by omega
      by_cases hmb : m ≤ 2147483647
      · have htx : t < gs.length := by rw [HN.out]; exact hlt
        obtain ⟨bx, off, hxe, hxl, c0, c1, c2⟩ := (HG.out.below HW.out) t htx
        have HTK := Lib.hid (List.take_succ_eq_append_getElem htx)
        have hzz := HGZ.out _ (List.getElem_mem htx)
        generalize gs[t] = l at c0 c1 c2 HTK hzz
        obtain ⟨nm, tx, at_⟩ := l
        simp only at c0 c1 c2 hzz
        unfold maxLen at hzz
        obtain ⟨z1, z2⟩ := hzz
        have HS : Hid (addJ m (addJ (addJ nm.size 20) (4 * min (tx.size : Int) 2147483647)) = capJ (W0 + wG (gs.take (t + 1)))) := Lib.hid (by rw [HM.out, HTK.out, wG_snoc, ← Nat.add_assoc]; exact wgiv_step)
        have hA1 := addJ_in (n := nm.size) (m := 20) (by omega) (by omega)
        have hA3 := addJ_in (n := addJ nm.size 20) (m := 4 * min (tx.size : Int) 2147483647) hA1.1 (by omega)
        have hA4 := addJ_in (n := m) (m := addJ (addJ nm.size 20) (4 * min (tx.size : Int) 2147483647)) hm0 hA3.1
        have HD := Lib.hid (HW.out.trans ((below_drewN wr 1).mono HW.out.size))
        have hwm : IntKind.i64.wrap (4 * min (tx.size : Int) 2147483647) = 4 * min (tx.size : Int) 2147483647 := IntWalk.i64_in _ (by omega)
        subst hxe
        clear c2 htx
        go_wp2
        go_region_held3 (fun w' => w'.cell? ⟨bx, off + t * 3, none⟩ = some (.string nm) ∧ w'.cell? ⟨bx, off + t * 3 + 1, none⟩ = some (.string tx)) (first | exact ⟨c0, c1⟩)
          (first | (go_at_call 8; (with_reducible refine (fadd_any _ _ _ (by omega) (by omega) (by omega) (by omega)).mono ?_); rintro e w' ⟨rfl, rfl⟩))
        all_goals
          go_wp2
          go_roundw
          case rel => exact ⟨t + 1, _, rfl, by go_num, by omega, hA4.1, hA4.2, HS, HD⟩
          case measure => simp [intOf]; omega
      · have q5 : (2147483647 : Int) < m := by omega
        go_wp2
        go_ret
        exact ⟨rfl, HW.out⟩
    · have hte : t = n := by omega
      subst hte
      have q2 : ¬ (t : Int) < t := by omega
      by_cases hmb : m ≤ 2147483647
      · have q5 : ¬ (2147483647 : Int) < m := by omega
        have hHM := HM.out
        rw [List.take_of_length_le (by rw [HN.out]; exact Nat.le_refl _)] at hHM
        have hwt : W0 + wG gs ≤ 2147483647 := by unfold capJ at hHM; omega
        have h1 := wK_len ls
        have h2 := wG_len gs
        rw [HW0.out, HNK.out] at h1
        rw [HN.out] at h2
        have HKS : Hid (∀ l ∈ ls, l.name.size ≤ 2147483647 ∧ l.dflt.size ≤ 2147483647 ∧ l.letter.size ≤ 2147483647) := Lib.hid fun l hl => by
          have := wK_mem hl
          rw [HW0.out] at this
          unfold wKey at this
          omega
        have HGS : Hid (∀ g ∈ gs, g.name.size ≤ 4294967280 ∧ g.text.size ≤ 4294967280) := Lib.hid fun g hg => by
          have := wG_mem hg
          unfold wGiv at this
          omega
        have HAW : Hid (Calls Tryz.prog 9 #[] wr fun e w' => e = .returned (.bool true) ∧ Below wr.heap.size wr w') := Lib.hid (fawake_any wr (HMX.out _ HW.out).1 (HMX.out _ HW.out).2.1 (HMX.out _ HW.out).2.2)
        have HSE : Hid (∀ W, Below w.heap.size w W → Calls Tryz.prog 10 #[.int .i64 which, .slice xk nk ck] W (SetsRes W)) := Lib.hid fun W hb => by
          have := sets_any which xk ck ls W hw (HK.out.below hb) (by rw [HNK.out]; omega) HKS.out (HMX.out _ hb).1 (HMX.out _ hb).2.1 (HMX.out _ hb).2.2
          rw [HNK.out] at this
          exact this
        have htb : t ≤ 107374182 := by omega
        clear hHM hwt h1 HM HKZ HGZ hm0 hm1 hgn hw
        go_wp2_with fail
        refine HAW.out.mono ?_
        rintro e w2 ⟨rfl, hb2⟩
        have HB2 := Lib.hid (HW.out.trans (hb2.mono HW.out.size))
        clear hb2 HW HAW
        go_wp2_with fail
        refine (HSE.out _ HB2.out).mono ?_
        rintro e w3 ⟨S, X, sx, sc, sy, sd, xs, ys, rfl, hSA, hSO, hSL, hSB, hSP, hb3⟩
        have HB3 := Lib.hid (HB2.out.trans (hb3.mono HB2.out.size))
        obtain ⟨ts, en, hP⟩ : ∃ ts en, printA xs gs = (ts, en) := ⟨_, _, rfl⟩
        have HFP : Hid (∀ W y d, Below w3.heap.size w3 W → Givs W y gs → Calls Tryz.prog 11 #[.pointer (some ⟨S, 0, none⟩), .slice y t d] W (PrnA W (ts, en))) := Lib.hid fun W y d hb hg => by
          have := fprint_any xs S sx sc gs y d W (hSA.below hb) hSO hSL hg (by rw [HN.out]; omega) HGS.out
          rw [hP, HN.out] at this
          exact this
        have HRP : Hid (∀ W y d, Below w3.heap.size w3 W → Givs W y gs → Calls Tryz.prog 12 #[.pointer (some ⟨X, 0, none⟩), .slice y t d] W (PrnA W (ts, en))) := Lib.hid fun W y d hb hg => by
          have := frefPrint_any ys X sy sd gs y d W (hSB.below hb) (by rw [hSP.length_eq]; exact hSL) hg (by rw [HN.out]; omega) HGS.out
          rw [printA_perm hSP, hP, HN.out] at this
          exact this
        have hnt : ts.length ≤ t := by
          have : (printA xs gs).1.length ≤ gs.length := by unfold printA; split <;> simp
          rw [hP, HN.out] at this
          exact this
        obtain ⟨nt, hNT⟩ : ∃ nt, ts.length = nt := ⟨_, rfl⟩
        have HNT := Lib.hid hNT
        rw [hNT] at hnt
        clear hb3 HSE HB2 hSA hSO hSL hSB hSP hP hNT HKS HGS HK HNK
        obtain ⟨CS, hCS⟩ : ∃ CS, (gFlat (List.replicate (t + 1) zG)).toArray = CS := ⟨_, rfl⟩
        have hmk : ∀ W : World, (Instr.makeSlice 23 (.int .i64 ((t : Int) + 1)) (.int .i64 ((t : Int) + 1))).run Tryz.prog W = .ok (.slice (some ⟨W.heap.size, 0, none⟩) (t + 1) (t + 1)) (W.alloc (Obj.cells CS 27)) := fun W => by
          have := run_madeG W (t + 1) (by omega)
          rw [hCS] at this
          exact this
        have HCP : Hid (∃ W', (∀ ty : TypeId, (Builtin.copy_ #[23, 23] ty #[.slice (some ⟨w3.heap.size, 0, none⟩) (t + 1) (t + 1), .slice x t c]).run Tryz.prog (w3.alloc (Obj.cells CS 27)) = .ok (goInt t) W') ∧ RowG W' w3.heap.size (gs ++ List.replicate 1 zG) ∧ Below w3.heap.size w3 W') := Lib.hid (by
          have b1 := below_one w3 (Obj.cells CS 27)
          have hrow : RowG (w3.alloc (Obj.cells CS 27)) w3.heap.size (List.replicate (t + 1) zG) := by
            unfold RowG
            rw [hCS]
            exact heap_alloc_new _ _
          obtain ⟨W', h1, h2, h3⟩ := run_copyG (w3.alloc (Obj.cells CS 27)) w3.heap.size t c 1 x gs HN.out hrow ((HG.out.below HB3.out).below b1)
          exact ⟨W', h1, h3, b1.trans (h2.below (Nat.le_refl _) b1.size)⟩)
        have w1' : IntKind.i64.wrap ((t : Int) + 1) = (t : Int) + 1 := IntWalk.i64_in _ (by omega)
        have q6 : (0 : Int) ≤ t := by omega
        have q7 : (t : Int) < (t : Int) + 1 := by omega
        obtain ⟨w6, hcp, hr6, hb6⟩ := HCP.out
        have hom := own_mark w6 w3.heap.size gs hr6
        rw [HN.out] at hom
        obtain ⟨⟨c1, f1⟩, hr8⟩ := hom
        have HR8 := Lib.hid hr8
        have HB8 : Hid (Below w3.heap.size w3 (w6.setCell ⟨w3.heap.size, t * 3 + 2, none⟩ (.int .i64 (-7)))) := Lib.hid (hb6.setCell (p := ⟨w3.heap.size, t * 3 + 2, none⟩) (Nat.le_refl _) _)
        have hsl := fun W => gslice_to w3.heap.size 0 (t + 1) (t + 1) t (by omega) W
        have HOB : Hid (∀ W, RowG W w3.heap.size (gs ++ [mG]) → Givs W (some ⟨w3.heap.size, 0, none⟩) gs ∧ W.cell? ⟨w3.heap.size, t * 3 + 2, none⟩ = some (.int .i64 (-7))) := Lib.hid fun W h => by
          have := own_back W w3.heap.size gs h
          rw [HN.out] at this
          exact this
        clear hr6 hb6 hr8 HCP hCS
        have HTX : Hid (∀ W y z d d', TxAt W y ts → TxAt W z ts → Calls Tryz.prog 13 #[.slice y nt d, .slice z nt d'] W fun e w' => e = .returned (.bool true) ∧ Below W.heap.size W w') := Lib.hid fun W y z d d' h1 h2 => by
          have := texts_any ts y z d d' W h1 h2 (by rw [HNT.out]; omega)
          rw [HNT.out] at this
          exact this
        have HGV : Hid (∀ W y z d d', Givs W y gs → Givs W z gs → Calls Tryz.prog 14 #[.slice y t d, .slice z t d'] W fun e w' => e = .returned (.bool true) ∧ Below W.heap.size W w') := Lib.hid fun W y z d d' h1 h2 => by
          have := givens_any gs y z d d' W h1 h2 (by rw [HN.out]; omega)
          rw [HN.out] at this
          exact this
        have HG3 : Hid (∀ W, Below w3.heap.size w3 W → Givs W x gs) := Lib.hid fun W hb => HG.out.below (HB3.out.trans (hb.mono HB3.out.size))
        have hnt2 : nt ≤ 107374182 := by omega
        go_wp2_with (at_builtin; refine wpList_copy_eq rfl _ _ _ _ rfl _ _ _ rfl rfl (hcp _) ?_)
        obtain ⟨w8, hw8⟩ : ∃ w8, w6.setCell ⟨w3.heap.size, t * 3 + 2, none⟩ (.int .i64 (-7)) = w8 := ⟨_, rfl⟩
        rw [hw8] at HR8 HB8
        rw [hw8]
        clear hw8 c1 f1 hcp hmk
        refine (HFP.out _ _ _ HB8.out (HOB.out _ HR8.out).1).mono ?_
        rintro e w9 ⟨v1, rfl, ho1⟩
        obtain ⟨x1, k1, hv1⟩ := own_form ho1.own
        simp only at hv1 ho1
        rw [HNT.out] at hv1
        subst hv1
        have HO1 := Lib.hid ho1
        have HR9 := Lib.hid (RowG.below HR8.out ho1.below)
        have HB9 := Lib.hid (HB8.out.trans (ho1.below.mono HB8.out.size))
        clear ho1 HR8
        go_wp2_with fail
        refine (HRP.out _ _ _ HB9.out (HG3.out _ HB9.out)).mono ?_
        rintro e w10 ⟨v2, rfl, ho2⟩
        obtain ⟨x2, k2, hv2⟩ := own_form ho2.own
        simp only at hv2 ho2
        rw [HNT.out] at hv2
        subst hv2
        have HA2 := Lib.hid (own_apart HO1.out ho2 (Nat.le_refl _))
        have HO2 := Lib.hid ho2
        have HP1 := Lib.hid (HO1.out.after ho2.below)
        have HR10 := Lib.hid (RowG.below HR9.out ho2.below)
        have HB10 := Lib.hid (HB9.out.trans (ho2.below.mono HB9.out.size))
        clear ho2 HO1 HR9 HB9 HRP
        go_wp2_with fail
        refine (HFP.out _ _ _ HB10.out (HOB.out _ HR10.out).1).mono ?_
        rintro e w11 ⟨v3, rfl, ho3⟩
        obtain ⟨x3, k3, hv3⟩ := own_form ho3.own
        simp only at hv3 ho3
        rw [HNT.out] at hv3
        subst hv3
        have HA3 := Lib.hid (own_apart HP1.out ho3 (Nat.le_refl _))
        have HQ1 := Lib.hid (HP1.out.after ho3.below)
        have HX2 := Lib.hid (HO2.out.tx.below ho3.below)
        have HX3 := Lib.hid ho3.tx
        have HR11 := Lib.hid (RowG.below HR10.out ho3.below)
        have HB11 := Lib.hid (HB10.out.trans (ho3.below.mono HB10.out.size))
        clear ho3 HP1 HO2 HR10 HB10 HFP
        go_wp2_with fail
        refine (HTX.out _ _ _ _ _ HQ1.out.tx HX2.out).mono ?_
        rintro e w12 ⟨rfl, hb12⟩
        have HQ2 := Lib.hid (HQ1.out.after hb12)
        have HX2b := Lib.hid (HX2.out.below hb12)
        have HX3b := Lib.hid (HX3.out.below hb12)
        have HR12 := Lib.hid (RowG.below HR11.out hb12)
        have HB12 := Lib.hid (HB11.out.trans (hb12.mono HB11.out.size))
        clear hb12 HQ1 HX2 HX3 HR11 HB11
        go_wp2_with fail
        refine (HTX.out _ _ _ _ _ HX3b.out HX2b.out).mono ?_
        rintro e w13 ⟨rfl, hb13⟩
        have HQ3 := Lib.hid (HQ2.out.after hb13)
        have HX2c := Lib.hid (HX2b.out.below hb13)
        have HX3c := Lib.hid (HX3b.out.below hb13)
        have HR13 := Lib.hid (RowG.below HR12.out hb13)
        have HB13 := Lib.hid (HB12.out.trans (hb13.mono HB12.out.size))
        clear hb13 HQ2 HX2b HX3b HR12 HB12
        go_wp2_with fail
        refine (HGV.out _ _ _ _ _ (HOB.out _ HR13.out).1 (HG3.out _ HB13.out)).mono ?_
        rintro e w14 ⟨rfl, hb14⟩
        have HQ4 := Lib.hid (HQ3.out.after hb14)
        have HX2d := Lib.hid (HX2c.out.below hb14)
        have HX3d := Lib.hid (HX3c.out.below hb14)
        obtain ⟨_, d2⟩ := HOB.out _ (RowG.below HR13.out hb14)
        clear hb14 HQ3 HX2c HX3c HR13 HB13 HGV HG3 HOB
        have hne := Int.lt_irrefl en
        go_wp2
        go_loopw [23] (fun i wr2 => ∃ (k : Nat) (us : List ByteArray), i = .int .i64 k ∧ k ≤ nt ∧ Hid (us.length = nt) ∧ Hid (OwnX w8 wr2 (.slice x1 nt k1) us) ∧ Hid (TxAt wr2 x2 ts) ∧ Hid (TxAt wr2 x3 ts)) (fun i _ => nt - (intOf i).toNat)
        case atStart => exact ⟨0, ts, rfl, by omega, HNT, HQ4, HX2d, HX3d⟩
        case round =>
          clear HQ4 HX2d HX3d
          obtain ⟨k, us, rfl, hk, HUS, HO, HX2, HX3⟩ := hrel
          by_cases hkn : k < nt
          · have r1 : (0 : Int) ≤ k := by omega
            have r2 : (k : Int) < nt := by omega
            obtain ⟨g, hx1, _⟩ := HO.out.form (by omega)
            subst hx1
            obtain ⟨⟨a0, e1⟩, e2, hput, hgr⟩ := HO.out.put HUS.out k hkn ⟨#[111, 118, 101, 114]⟩
            have HPU := Lib.hid hput
            have HX2n := Lib.hid (HX2.out.other hgr fun b off e he => HA2.out b off e he)
            have HX3n := Lib.hid (HX3.out.other hgr fun b off e he => HA3.out b off e he)
            have HUS2 : Hid ((us.set k ⟨#[111, 118, 101, 114]⟩).length = nt) := Lib.hid (by rw [List.length_set]; exact HUS.out)
            clear hput hgr HO HX2 HX3 HUS
            go_wp2
            go_roundw
            case rel => exact ⟨k + 1, _, by go_num, by omega, HUS2, HPU, HX2n, HX3n⟩
            case measure => simp [intOf]; omega
          · have r2 : ¬ (k : Int) < nt := by omega
            have hus := HUS.out
            have wn : IntKind.i64.wrap ((nt : Int) + 1) = (nt : Int) + 1 := IntWalk.i64_in _ (by omega)
            go_wp2_with (at_builtin; refine appendX2 rfl _ _ rfl HO.out (by omega) rfl rfl rfl ?_; intro y cap w' ho hg; have HX2e := Lib.hid ((HX2.out.below (below_one _ _)).other hg HA2.out); have HX3e := Lib.hid ((HX3.out.below (below_one _ _)).other hg HA3.out); have HBE := Lib.hid (HB3.out.trans ((HB8.out.trans (ho.below.mono HB8.out.size)).mono HB3.out.size)); clear ho hg)
            refine (HTX.out _ _ _ _ _ HX3e.out HX2e.out).mono ?_
            rintro e w20 ⟨rfl, hb20⟩
            have HBF := Lib.hid (HBE.out.trans (hb20.mono HBE.out.size))
            clear hb20
            go_wp2
            go_ret
            exact ⟨by first | rfl | simp, HBF.out⟩
      · have q5 : (2147483647 : Int) < m := by omega
        go_wp2
        go_ret
        exact ⟨rfl, HW.out⟩
end Go.Proofs.YtbgoooljkdjjhaaGreatDoor
