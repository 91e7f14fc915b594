/-
  RefsApart0.
-/
import Derived.Test.YtopghlnoklajkaaGreatDoorQRefsApartM
import Derived.Test.YtopghlnoklajkaaGreatDoorQRefsMeans0
import Derived.Test.YtopghlnoklajkaaGreatDoorQRefsLaw2
import Derived.Test.YtopghlnoklajkaaGreatDoorQLayGet
namespace Go.Proofs.YtopghlnoklajkaaGreatDoor
open Go.ChangeShapes Go.WideShapes Go.ChangeAt Go.RowKit

theorem infoBl : (Tryz.prog.info? 4).map (fun i => (i.zero, i.size, i.bytes)) = some (some (.bool false), 1, 1) := by kernel_rfl
theorem run_madeB (w : World) (n : Nat) (hn : n ≤ 1000000) :
    ∃ cs, (Instr.makeSlice 53 (.int .i64 (n : Int)) (.int .i64 (n : Int))).run Tryz.prog w = .ok (.slice (some ⟨w.heap.size, 0, none⟩) n n) (w.alloc (Obj.cells cs 4)) ∧ ∀ j, j < n → cs[j]? = some (.bool false) := by
  obtain ⟨i0, hi, hz0, hz1, hz2⟩ := info_parts infoBl
  have := run_make (P := Tryz.prog) w 53 4 i0 _ Tryz.underlying53 hi hz0 .i64 .i64 (n : Int) (n : Int) (by omega) (by omega) (by rw [hz2]; omega) (by omega)
  rw [hz1, Int.toNat_natCast] at this
  refine ⟨_, this, fun j hj => ?_⟩
  show (madeCells #[Value.bool false] (n * 1))[j]? = _
  rw [← Array.getElem?_toList, toList_madeCells_one, List.getElem?_replicate, if_pos (by omega)]
/-- A row of marks, one of which is c. -/
theorem BoolAt.put2 {W : World} {g n i : Nat} {c : Bool} {D : Nat → Bool} (h : BoolAt W g n (fun q => if q = i then c else D q)) (v : Bool) : BoolAt (W.setCell ⟨g, i, none⟩ (.bool v)).drew g n (fun q => if q = i then v else D q) := fun j hj => by
  refine ⟨?_, by show (W.setCell ⟨g, i, none⟩ (.bool v)).frozen? ⟨g, j, none⟩ = false; rw [World.frozen?_setCell]; exact (h j hj).2⟩
  show (W.setCell ⟨g, i, none⟩ (.bool v)).cell? ⟨g, j, none⟩ = _
  by_cases e : j = i
  · subst e
    rw [World.cell?_setCell_same _ _ _ (h j hj).1]; simp
  · rw [World.cell?_setCell_other _ _ _ _ (fun h => e (by injection h with h1 h2; omega)), (h j hj).1]; simp [e]
theorem BoolAt.below {W W' : World} {g n : Nat} {D : Nat → Bool} (h : BoolAt W g n D) (hb : Below W.heap.size W W') (hg : g < W.heap.size) : BoolAt W' g n D := fun j hj => ⟨(hb.cell (p := ⟨g, j, none⟩) hg).trans (h j hj).1, (hb.frozen (p := ⟨g, j, none⟩) hg).trans (h j hj).2⟩
theorem BoolAt.same {W : World} {g n i : Nat} {D : Nat → Bool} (h : BoolAt W g n D) : BoolAt W g n (fun q => if q = i then D i else D q) := fun j hj => by
  have := h j hj
  by_cases e : j = i
  · subst e; simpa using this
  · simpa [e] using this
/-- What Expand answers, in one form. -/
theorem xp_sum {F : Nat → Prop} {w w' : World} {X : Nat} {dx hx : Option Addr} {dc hc : Nat} {ks : List KeyV} {ms : List SetM} {e : Ending} (h : XpRes F w X dx dc ks ms e w') (hl : LayAt F w X dx dc hx hc ks ms) (hok : LayOk ks ms) :
    ∃ E s, e = .returned (.tuple #[.int .i64 E, .string s]) ∧ But X w w' ∧ ∃ F' hx' hc' ms', (∀ b, F' b → F b ∨ w.heap.size ≤ b) ∧ LayAt F' w' X dx dc hx' hc' ks ms' ∧ LayOk ks ms' ∧ ms'.length = ms.length ∧ (E = 0 → ∀ j (h1 : j < ms'.length) (h2 : j < ms.length), ms'[j].x = expS ms j ms[j].x) := by
  unfold XpRes at h
  cases hw : wrongE ms with
  | some p =>
    obtain ⟨E, k⟩ := p
    rw [hw] at h
    obtain ⟨rfl, hb⟩ := h
    have hE := wrong_is hw
    exact ⟨E, _, rfl, .of_below hb, F, hx, hc, ms, fun b h => .inl h, hl.below hb, hok, rfl, fun e => by omega⟩
  | none =>
    rw [hw] at h
    obtain ⟨rfl, hb, F', hx', hc', ms', h1, h2, h3, h4, h5⟩ := h
    exact ⟨0, _, rfl, hb, F', hx', hc', ms', h1, h2, h3, h4, fun _ => h5⟩
/-- The names that a text speaks of, as texts. -/
def nmA (s : ByteArray) : List ByteArray := (namesB s.data.toList).1.map fun n => ⟨n.toArray⟩
theorem na_of {w w' : World} {s : ByteArray} {e : Ending} (h : NmRes w (namesB s.data.toList) e w') : ∃ x c E, e = .returned (.tuple #[.slice x (nmA s).length c, .int .i64 E]) ∧ TxAt w' x (nmA s) ∧ (∀ b off, x = some ⟨b, off, none⟩ → w.heap.size ≤ b) ∧ Below w.heap.size w w' := by
  obtain ⟨v, rfl, ho, hb⟩ := h
  obtain ⟨x, c, rfl⟩ := own_form ho
  have hl : (nmA s).length = (namesB s.data.toList).1.length := by unfold nmA; rw [List.length_map]
  have hm : (nmA s).map Value.string = (namesB s.data.toList).1.map nmS := by unfold nmA; rw [List.map_map]; rfl
  have ho2 : w'.ownsRow w.heap.size 9 1 (.slice x (nmA s).length c) (nmA s).length ((nmA s).map Value.string) := by rw [hm, hl]; exact ho
  obtain ⟨x', c', e, ht⟩ := tx_of_own ho2 rfl
  injection e with e1 _ _
  exact ⟨x, c, _, by rw [hl], by rw [e1]; exact ht, fun b off e => (ho2.lt b (by rw [e]; rfl)).1, hb⟩
theorem nmA_len (s : ByteArray) : (nmA s).length ≤ s.size + 1 := by
  unfold nmA namesB
  rw [List.length_map]
  have hl : s.data.toList.length = s.size := by simp
  cases h : piecesB s.data.toList with
  | none => simp
  | some l =>
    have h1 := pieces_len h
    have h2 := namesL_len l
    simp only
    omega
theorem nmA_mem {ms : List SetM} {i : Nat} {tx : ByteArray} (h : Tx ms i = tx.data.toList) : ∀ p ∈ Px ms i, p.2 = true → (⟨p.1.toArray⟩ : ByteArray) ∈ nmA tx := fun p hp hr => by
  unfold Px at hp
  rw [h] at hp
  cases hl : piecesB tx.data.toList with
  | none => rw [hl] at hp; cases hp
  | some l =>
    rw [hl] at hp
    unfold nmA namesB
    rw [hl]
    exact List.mem_map.2 ⟨p.1, (mem_namesL l p.1).2 ⟨p, hp, hr, rfl⟩, rfl⟩
theorem elemSt : Tryz.prog.underlying 40 = some (.slice (Tryz.prog.elem 40)) := by kernel_rfl
theorem sizeSt (w : World) : (sizeOf (Tryz.prog.elem 40)).run Tryz.prog w = .ok 6 w := by kernel_rfl
theorem st_slice (b n c i : Nat) (hi : i < n) (hc : n ≤ c) (W : World) : (Instr.slice 40 (.slice (some ⟨b, 0, none⟩) n c) (some (.int .i64 (i : Int))) (some (.int .i64 ((i : Int) + 1))) none).run Tryz.prog W = .ok (.slice (some ⟨b, i * 6, none⟩) 1 (c - i)) W := by
  rw [run_slice_lh W _ _ _ _ elemSt .i64 .i64 (i : Int) ((i : Int) + 1) (by omega) (by omega) (by omega), sizeSt]
  show Result.ok (sliced _ _ _ _ _) W = _
  unfold sliced
  have e1 : ((i : Int) + 1).toNat = i + 1 := by omega
  have e2 : (i : Int).toNat = i := by omega
  rw [e1, e2]
  congr 2
  · split
    · omega
    · simp [Addr.add]; omega
  · omega
/-- What stands in the loops. -/
structure ApIn (wp wr : World) (L n : Nat) (ms : List SetM) (k T i0 : Nat) (D : Nat → Bool) : Prop where
  below : Below wp.heap.size wp wr
  row : BoolAt wr L n D
  lt : L < wr.heap.size
  lds : Lds ms k T i0 D
set_option maxHeartbeats 12800000 in
set_option maxRecDepth 100000 in
theorem refsApart_any (xk yp : Option Addr) (ck cp : Nat) (ls : List KeyV) (ps : List PutV) (at_ : Int) (other : ByteArray) (w : World) (hK : KeysAt w xk ls) (hn : ls.length ≤ maxLen) (hz : ∀ l ∈ ls, l.name.size ≤ maxLen ∧ l.dflt.size ≤ maxLen ∧ l.letter.size ≤ maxLen)
    (hP : PutsAt w yp ps) (hpn : ps.length ≤ maxLen) (hpz : ∀ p ∈ ps, p.text.size ≤ maxLen) (hpb : ∀ p ∈ ps, (-9223372036854775808 ≤ p.at_ ∧ p.at_ ≤ 9223372036854775807) ∧ (-9223372036854775808 ≤ p.from_ ∧ p.from_ ≤ 9223372036854775807)) (hat : -9223372036854775808 ≤ at_ ∧ at_ ≤ 9223372036854775807) (hot : other.size ≤ maxLen) (hS : Std w) :
    Calls Tryz.prog 6 #[.slice xk ls.length ck, .slice yp ps.length cp, .int .i64 at_, .string other] w fun e w' => e = .returned (.bool true) ∧ Below w.heap.size w w' := by
  have HWG := Lib.hid (rweight_any xk yp ck cp ls ps w hK hn hz hP hpn hpz)
  have HSB : Hid (∀ W, Below w.heap.size w W → Std W) := Lib.hid fun W hb => hS.below hb
  have HBO : Hid (capR (wKR ls + wPR ps) ≤ 2147483647 → ∀ W, Below w.heap.size w W → Calls Tryz.prog 13 #[.slice xk ls.length ck, .slice yp ps.length cp] W (BothRes W)) := Lib.hid fun h W hb => by
    obtain ⟨a, b, c, d⟩ := weigh_small h
    exact both_any xk yp ck cp ls ps W (hK.below hb) (by omega) c (hP.below hb) (by omega) (fun p hp => ⟨d p hp, hpb p hp⟩) (hS.below hb)
  obtain ⟨nl, hnl⟩ : ∃ n, ls.length = n := ⟨_, rfl⟩
  obtain ⟨np, hnp⟩ : ∃ n, ps.length = n := ⟨_, rfl⟩
  rw [hnl, hnp] at HWG HBO ⊢
  have hcu := capR_in (wKR ls + wPR ps)
  generalize capR (wKR ls + wPR ps) = U at HWG HBO hcu
  unfold maxLen at hot
  have HAD : Hid (∀ W, Calls Tryz.prog 7 #[.int .i64 U, .int .i64 other.size] W fun e w' => e = .returned (.int .i64 (addJ U other.size)) ∧ W = w') := Lib.hid fun W => radd_any U other.size W (by omega) (by omega) (by omega) (by omega)
  have HAB : Hid (addJ U other.size ≤ 2147483647 → U ≤ 2147483647 ∧ other.size ≤ 2147483647) := Lib.hid fun h => by
    unfold addJ at h
    split at h <;> omega
  clear hK hn hz hP hpn hpz hpb hS hnl hnp hcu hot
  go_enter Tryz.func6, Tryz.ntmps6
  go_wp2_with fail
  refine HWG.out.mono ?_
  rintro e w1 ⟨rfl, hb1⟩
  have HB1 := Lib.hid hb1
  clear hb1 HWG
  go_wp2_with fail
  refine (HAD.out _).mono ?_
  rintro e w' ⟨rfl, rfl⟩
  generalize addJ U other.size = U2 at HAB ⊢
  clear HAD
  by_cases hb : 2147483647 < U2
  · go_wp2
    go_ret
    exact ⟨rfl, HB1.out⟩
  · obtain ⟨hu1, hu2⟩ := HAB.out (by omega)
    have HBO2 := Lib.hid (HBO.out hu1)
    have hAW := rawake_any w1 (HSB.out _ HB1.out)
    clear HBO HAB
    go_wp2_with fail
    refine hAW.mono ?_
    rintro e w2 ⟨rfl, hb2⟩
    have HB2 := Lib.hid (HB1.out.trans (hb2.mono HB1.out.size))
    have hBO := HBO2.out w2 HB2.out
    clear hb2 hAW HBO2
    go_wp2_with fail
    refine hBO.mono ?_
    rintro e w3 ⟨B, F, X, Y, dx, dc, hx, hc, ks, ms, yk, ck2, lv, ns, rfl, hG, hBB, hbo⟩
    have HB3 := Lib.hid (HB2.out.trans (hbo.below.mono HB2.out.size))
    have HXN : Hid (w.heap.size ≤ X ∧ X < w3.heap.size) := Lib.hid ⟨Nat.le_trans HB2.out.size hbo.newX, heap_ltF hbo.a.obj⟩
    have HLA := Lib.hid hbo.a
    have HOK := Lib.hid (And.intro hbo.ok (And.intro (made_ms hG hbo.ok) hG.sorted))
    obtain ⟨n, hn⟩ : ∃ n, ms.length = n := ⟨_, rfl⟩
    have HN := Lib.hid hn
    have hn1 : n ≤ 1000 := by rw [← HN.out]; exact HOK.out.2.1.few
    have hCP := lcopy_any F X w3 dx hx dc hc ks ms hbo.a
    clear hG hBB hbo hBO hn HB2
    go_wp2_with fail
    refine hCP.mono ?_
    rintro e w4 ⟨rfl, hla4, hb4⟩
    have HB4 := Lib.hid (HB3.out.trans (hb4.mono HB3.out.size))
    have HZ4 : Hid (w3.heap.size < w4.heap.size) := Lib.hid (heap_ltF hla4.obj)
    have HLY4 := Lib.hid hla4
    have HLX4 := Lib.hid (HLA.out.below hb4)
    have hAL := lall_any F X w4 dx hx dc hc ks ms HLX4.out HOK.out.1 HOK.out.2.1.few
    clear hla4 hb4 hCP
    obtain ⟨X2, hX2⟩ : ∃ X2, w3.heap.size = X2 := ⟨_, rfl⟩
    have HX2 := Lib.hid hX2
    rw [hX2] at HLY4 ⊢
    clear hX2
    go_wp2_with fail
    refine hAL.mono ?_
    rintro e w5 ⟨v5, l5, rfl, hl5, hs5, hb5⟩
    obtain ⟨x5, c5, hv5⟩ := hs5.form
    rw [len_of_same hl5, HN.out] at hv5
    have HB5 := Lib.hid (HB4.out.trans (hb5.mono HB4.out.size))
    have HL5 := Lib.hid hl5
    have HS5 := Lib.hid hs5
    have HLX5 := Lib.hid (HLX4.out.below hb5)
    have HLY5 := Lib.hid (HLY4.out.below hb5)
    have HZ5 : Hid (w4.heap.size ≤ w5.heap.size) := Lib.hid hb5.size
    subst hv5
    clear hl5 hs5 hb5 hAL HLX4 HLY4 HB4 HB3
    by_cases hn0 : n = 0
    · subst hn0
      go_wp2
      go_ret
      exact ⟨rfl, HB5.out⟩
    · have d0 : ((n : Int) == 0) = false := beq_eq_false_iff_ne.2 (by omega)
      have hnp : 0 < n := by omega
      obtain ⟨k, hk⟩ : ∃ k : Nat, pickJ at_ n = k := ⟨(pickJ at_ n).toNat, by have := pickJ_in (c := at_) (n := n) (by omega); omega⟩
      have hkn : k < n := by have := pickJ_in (c := at_) (n := n) (by omega); omega
      have hPK := rpick_any at_ n w5 (by omega) (by omega) hat.1 hat.2
      rw [hk] at hPK
      clear hk hn0
      have hkm : k < ms.length := by rw [HN.out]; exact hkn
      have hkl : k < l5.length := by rw [len_of_same HL5.out]; exact hkm
      obtain ⟨ga, ca, hxa, hgl, hcs⟩ := HS5.out.cells hkl
      injection hxa with hxa hq1 hq2
      have hmx : l5[k].x = ms[k].x := map_at HL5.out k hkl hkm
      have e0 := hcs 0 (by decide)
      rw [Nat.add_zero] at e0
      replace e0 : w5.cell? ⟨ga, k * 6, none⟩ = some (.string ms[k].x.name) := by rw [← hmx]; exact e0
      have HARG : Hid (ArgOk w5 ⟨5, 0, other, []⟩ none 0) := Lib.hid ⟨fun k hk => absurd hk (by simp), by simp, by simp, fun k hk => absurd hk (by simp), by show other.size ≤ maxLen; unfold maxLen; omega⟩
      have hPU := lput_any F X2 w5 dx hx dc hc ks ms HLY5.out HOK.out.1 HOK.out.2.2 HOK.out.2.1.dis HOK.out.2.1.few ms[k].x.name ⟨5, 0, other, []⟩ none 0 HARG.out (by simp) (fun k hk => absurd hk (by simp)) (by show other.size ≤ _; omega) 1 (HSB.out _ HB5.out).tab
      have HLPU : Hid (∀ e w', LpRes F w5 X2 dx dc ks ms ms[k].x.name ⟨5, 0, other, []⟩ 1 e w' → ∃ E F' hx' hc' ms', e = .returned (.int .i64 E) ∧ But X2 w5 w' ∧ LayAt F' w' X2 dx dc hx' hc' ks ms' ∧ (∀ b, F' b → F b ∨ w5.heap.size ≤ b) ∧ LayOk ks ms' ∧ OneTx k ms ms') := Lib.hid fun e w' h => by
        obtain ⟨E, F', hx', hc', ms', h1, h2, h3, h4, h5⟩ := lput_is HLY5.out h
        exact ⟨E, F', hx', hc', ms', h1, h2, h3, h4, h5.ok HOK.out.1, OneTx.put HOK.out.2.1.dis hkm h5⟩
      have q1 : (0 : Int) ≤ k := by omega
      have q2 : (k : Int) < n := by omega
      generalize ms[k].x.name = nm at e0 hPU HLPU
      subst hxa
      clear hcs hq1 hq2 hmx hkl HARG
      go_wp2_with fail
      refine hPK.mono ?_
      rintro e w' ⟨rfl, rfl⟩
      clear hPK
      unfold argV at hPU
      go_wp2_with fail
      refine hPU.mono ?_
      rintro e w6 hp6
      obtain ⟨E6, F6, hx6, hc6, ms2, rfl, hbut6, hly6, hF6, hok6, hone⟩ := HLPU.out e w6 hp6
      clear hp6 hPU HLPU
      have HX2N : Hid (w.heap.size ≤ X2 ∧ X < X2 ∧ X2 < w5.heap.size ∧ ¬ F X2) := Lib.hid (by
        have h1 := HX2.out
        have h2 := HXN.out
        have h3 := HZ4.out
        have h4 := HZ5.out
        refine ⟨by omega, by omega, by omega, fun hf => ?_⟩
        have := HLA.out.lt X2 hf
        omega)
      have hB5 := HB5.out.size
      have HB6 : Hid (Below w.heap.size w w6) := Lib.hid (HB5.out.trans (hbut6.below HX2N.out.1 hB5))
      have HLX6 := Lib.hid (HLX5.out.but hbut6 (by have := HX2N.out.2.1; omega) HX2N.out.2.2.2)
      have HS6 := Lib.hid (HS5.out.butX HLY5.out.obj (by decide) hbut6)
      have HO6 := Lib.hid (And.intro hly6 (And.intro hok6 hone))
      have HFX6 : Hid (¬ F6 X) := Lib.hid fun hf => by
        rcases hF6 X hf with h1 | h1
        · exact HLX5.out.out h1
        · have := HX2N.out; omega
      have HZ6 : Hid (w5.heap.size ≤ w6.heap.size) := Lib.hid hbut6.2.2.2.1
      have hXP := expand_any F X w6 dx hx dc hc ks ms n HLX6.out HOK.out.1 HOK.out.2.2 HN.out HOK.out.2.1 (HSB.out _ HB6.out)
      clear hbut6 hly6 hF6 hok6 hone HLX5 HLY5 HS5 HB5 hB5 e0 hgl
      go_wp2_with fail
      refine hXP.mono ?_
      rintro e w7 hx7
      obtain ⟨E7, s7, rfl, hbut7, F7, hx7', hc7, ms7, hF7, hly7, hok7, hl7, hz7⟩ := xp_sum hx7 HLX6.out HOK.out.1
      have HB7 : Hid (Below w.heap.size w w7) := Lib.hid (HB6.out.trans (hbut7.below HXN.out.1 HB6.out.size))
      have HLY7 := Lib.hid (HO6.out.1.but hbut7 (by have := HX2N.out.2.1; omega) HFX6.out)
      have HS7 := Lib.hid (HS6.out.butX HLX6.out.obj (by decide) hbut7)
      have HO7 := Lib.hid (And.intro hly7 (And.intro hok7 (And.intro hl7 hz7)))
      have HFX7 : Hid (¬ F7 X2) := Lib.hid fun hf => by
        rcases hF7 X2 hf with h1 | h1
        · exact HX2N.out.2.2.2 h1
        · have := HX2N.out; have := HZ6.out; omega
      have HM2 : Hid (LayOk ks ms2 ∧ MsOk ms2 ∧ ms2.length = n) := Lib.hid ⟨HO6.out.2.1, by
        have h1 := HOK.out.2.1
        have h2 := HO6.out.2.2
        exact ⟨by rw [h2.names]; exact h1.dis, by rw [h2.names]; exact h1.small, by rw [h2.names]; exact h1.some_, HO6.out.2.1.right, by rw [h2.len]; exact h1.few⟩, by rw [HO6.out.2.2.len]; exact HN.out⟩
      have hXP2 := expand_any F6 X2 w7 dx hx6 dc hc6 ks ms2 n HLY7.out HM2.out.1 HOK.out.2.2 HM2.out.2.2 HM2.out.2.1 (HSB.out _ HB7.out)
      clear hbut7 hly7 hF7 hok7 hl7 hz7 hx7 hXP HLX6 HS6 HB6 HFX6
      go_wp2_with fail
      refine hXP2.mono ?_
      rintro e w8 hx8
      obtain ⟨E8, s8, rfl, hbut8, F8, hx8', hc8, ms8, hF8, hly8, hok8, hl8, hz8⟩ := xp_sum hx8 HLY7.out HM2.out.1
      have HB8 : Hid (Below w.heap.size w w8) := Lib.hid (HB7.out.trans (hbut8.below HX2N.out.1 HB7.out.size))
      have HLX8 := Lib.hid (HO7.out.1.but hbut8 (by have := HX2N.out.2.1; omega) HFX7.out)
      have HS8 := Lib.hid (HS7.out.butX HLY7.out.obj (by decide) hbut8)
      have HO8 := Lib.hid (And.intro hly8 (And.intro hok8 (And.intro hl8 hz8)))
      clear hbut8 hly8 hF8 hok8 hl8 hz8 hx8 hXP2 HLY7 HS7 HB7 HFX7
      by_cases h7 : E7 = 0
      · by_cases h8 : E8 = 0
        · have HZ : Hid ((∀ j (h1 : j < ms7.length) (h2 : j < ms.length), ms7[j].x = expS ms j ms[j].x) ∧ ∀ j (h1 : j < ms8.length) (h2 : j < ms2.length), ms8[j].x = expS ms2 j ms2[j].x) := Lib.hid ⟨HO7.out.2.2.2 h7, HO8.out.2.2.2 h8⟩
          have hAL7 := lall_any F7 X w8 dx hx7' dc hc7 ks ms7 HLX8.out HO7.out.2.1 (by rw [HO7.out.2.2.1]; exact HOK.out.2.1.few)
          subst h7 h8
          go_wp2_with fail
          refine hAL7.mono ?_
          rintro e w9 ⟨v9, la, rfl, hla, hsa, hb9⟩
          obtain ⟨xa, ca', hva⟩ := hsa.form
          rw [len_of_same hla, HO7.out.2.2.1, HN.out] at hva
          subst hva
          have HB9 := Lib.hid (HB8.out.trans (hb9.mono HB8.out.size))
          have HA9 := Lib.hid (And.intro hla hsa)
          have HS9 := Lib.hid (HS8.out.below hb9)
          have hAL8 := lall_any F8 X2 w9 dx hx8' dc hc8 ks ms8 (HO8.out.1.below hb9) HO8.out.2.1 (by rw [HO8.out.2.2.1]; exact HM2.out.2.1.few)
          clear hla hsa hb9 hAL7 HLX8 HS8 HB8
          go_wp2_with fail
          refine hAL8.mono ?_
          rintro e w10 ⟨v10, lb, rfl, hlb, hsb, hb10⟩
          obtain ⟨xb, cb, hvb⟩ := hsb.form
          rw [len_of_same hlb, HO8.out.2.2.1, HM2.out.2.2] at hvb
          subst hvb
          have HB10 := Lib.hid (HB9.out.trans (hb10.mono HB9.out.size))
          have HA10 := Lib.hid (And.intro HA9.out.1 (HA9.out.2.below hb10))
          have HBB10 := Lib.hid (And.intro hlb hsb)
          have HS10 := Lib.hid (HS9.out.below hb10)
          clear hlb hsb hb10 hAL8 HA9 HS9 HB9
          have d1 : ((n : Int) != (n : Int)) = false := by simp
          obtain ⟨cs, hmk, hcs⟩ := run_madeB w10 n (by omega)
          have hb11 := below_one w10 (Obj.cells cs 4)
          have hL0 : ∀ j, j < n → (w10.alloc (Obj.cells cs 4)).cell? ⟨w10.heap.size, j, none⟩ = some (.bool false) ∧ (w10.alloc (Obj.cells cs 4)).frozen? ⟨w10.heap.size, j, none⟩ = false := fun j hj => by
            have h := heap_alloc_new w10 (Obj.cells cs 4)
            exact ⟨by rw [cell_of_row _ _ j _ _ _ h]; exact hcs j hj, by unfold World.frozen?; rw [h]; simp⟩
          have c0 := (hL0 k hkn).1
          have f0 := (hL0 k hkn).2
          obtain ⟨L, hL⟩ : ∃ L, w10.heap.size = L := ⟨_, rfl⟩
          have HI0 : Hid (ApIn w10 (w10.alloc (Obj.cells (cs.setIfInBounds k (.bool true)) 4)) L n ms k 0 0 (fun q => decide (q = k))) := Lib.hid (by
            have h := heap_alloc_new w10 (Obj.cells (cs.setIfInBounds k (.bool true)) 4)
            rw [← hL]
            refine ⟨below_one _ _, fun j hj => ?_, by simp, Lds.start⟩
            refine ⟨?_, by unfold World.frozen?; rw [h]; simp⟩
            rw [cell_of_row _ _ j _ _ _ h, Array.getElem?_setIfInBounds]
            have hcj := hcs j hj
            by_cases e : k = j
            · subst e
              rw [if_pos rfl, if_pos (Array.getElem?_eq_some_iff.1 hcj).1]; simp
            · rw [if_neg e, hcj, decide_eq_false (fun h : j = k => e h.symm)])
          have hck := hcs k hkn
          clear hb11 hL0 hcs
          have HL10 : Hid (L = w10.heap.size) := Lib.hid hL.symm
          have HC10 : Hid (∀ W, Below w10.heap.size w10 W → ∀ i (hi : i < n), W.cell? ⟨ga, i * 6, none⟩ = some (.string (ms[i]'(by rw [HN.out]; exact hi)).x.name) ∧ W.cell? ⟨ga, i * 6 + 1, none⟩ = some (.int .i64 (ms[i]'(by rw [HN.out]; exact hi)).x.val.kind) ∧ W.cell? ⟨ga, i * 6 + 3, none⟩ = some (.string (ms[i]'(by rw [HN.out]; exact hi)).x.val.text)) := Lib.hid fun W hb i hi => by
            have him : i < ms.length := by rw [HN.out]; exact hi
            have hil : i < l5.length := by rw [len_of_same HL5.out]; exact him
            obtain ⟨b', c', e', hl', hcs'⟩ := HS10.out.cells hil
            injection e' with e' _ _
            injection e' with e'
            injection e' with e' _ _
            subst e'
            have hmx : l5[i].x = ms[i].x := map_at HL5.out i hil him
            rw [← hmx]
            exact ⟨(hb.cell (p := ⟨ga, _, none⟩) hl').trans (hcs' 0 (by decide)), (hb.cell (p := ⟨ga, _, none⟩) hl').trans (hcs' 1 (by decide)), (hb.cell (p := ⟨ga, _, none⟩) hl').trans (hcs' 3 (by decide))⟩
          obtain ⟨gA, hxa, hca⟩ : ∃ g, xa = some ⟨g, 0, none⟩ ∧ n ≤ ca' := by
            rcases HA10.out.2.row.2 with ⟨h1, h2⟩ | ⟨g, cap, cur, h1, _, _, hnc, _⟩
            · injection h1 with _ h3 _; omega
            · injection h1 with h1 h2 h3; exact ⟨g, h1, by omega⟩
          obtain ⟨gB, hxb, hcb⟩ : ∃ g, xb = some ⟨g, 0, none⟩ ∧ n ≤ cb := by
            rcases HBB10.out.2.row.2 with ⟨h1, h2⟩ | ⟨g, cap, cur, h1, _, _, hnc, _⟩
            · injection h1 with _ h3 _; omega
            · injection h1 with h1 h2 h3; exact ⟨g, h1, by omega⟩
          subst hxa hxb
          have HFIN : Hid (∀ D : Nat → Bool, (∀ i, i < ms.length → D i = false → FarB (Px ms) (plO (namesM ms)) k n i) → ∀ W, Below w10.heap.size w10 W → ∀ i, i < n → D i = false → Calls Tryz.prog 18 #[.slice (some ⟨gA, i * 6, none⟩) 1 (ca' - i), .slice (some ⟨gB, i * 6, none⟩) 1 (cb - i)] W fun e w' => e = .returned (.bool true) ∧ Below W.heap.size W w') := Lib.hid fun D hD W hb i hi hd => by
            have him : i < ms.length := by rw [HN.out]; exact hi
            have hi7 : i < ms7.length := by rw [HO7.out.2.2.1]; exact him
            have hi2 : i < ms2.length := by rw [HM2.out.2.2]; exact hi
            have hi8 : i < ms8.length := by rw [HO8.out.2.2.1]; exact hi2
            have hia : i < la.length := by rw [len_of_same HA10.out.1]; exact hi7
            have hib : i < lb.length := by rw [len_of_same HBB10.out.1]; exact hi8
            have ea : la[i].x = expS ms i ms[i].x := (map_at HA10.out.1 i hia hi7).trans (HZ.out.1 i hi7 him)
            have eb : lb[i].x = expS ms2 i ms2[i].x := (map_at HBB10.out.1 i hib hi8).trans (HZ.out.2 i hi8 hi2)
            have hf := hD i him hd
            rw [← HN.out] at hf
            have hxx := HO6.out.2.2.expS_ hi2 him hf
            refine rsettingsR_any [la[i]] [lb[i]] 1 _ _ _ _ W ((HA10.out.2.one hia).below hb) ((HBB10.out.2.one hib).below hb) (by simp only [List.map_cons, List.map_nil]; rw [ea, eb, hxx]) rfl (by decide) fun m hm => ?_
            rw [List.mem_singleton.1 hm]
            have : lb[i].x ∈ ms8.map (·.x) := by rw [← HBB10.out.1]; exact List.mem_map_of_mem (List.getElem_mem hib)
            obtain ⟨m2, h2, e⟩ := List.mem_map.1 this
            rw [← e]
            exact HO8.out.2.1.right m2 h2
          have hsA := fun (i : Nat) (hi : i < n) => st_slice gA n ca' i hi hca
          have hsB := fun (i : Nat) (hi : i < n) => st_slice gB n cb i hi hcb
          have HSA := Lib.hid hsA
          have HSBB := Lib.hid hsB
          clear hsA hsB hca hcb
          go_wp2
          try rw [hL]
          clear c0 f0 hck hmk hL HS10 HL5
          go_loopw [23] (fun i wr => ∃ (T : Nat) (D : Nat → Bool), i = .int .i64 T ∧ T ≤ n ∧ Hid (ApIn w10 wr L n ms k T 0 D)) (fun i _ => n - (intOf i).toNat)
          case atStart => exact ⟨0, _, rfl, by omega, HI0⟩
          case round =>
            clear HI0
            obtain ⟨T, D, rfl, hT, HI⟩ := hrel
            by_cases hlt : T < n
            · have r1 : (0 : Int) ≤ T := by omega
              have r2 : (T : Int) < n := by omega
              go_wp2
              go_loopw [24] (fun i wr => ∃ (i0 : Nat) (D : Nat → Bool), i = .int .i64 i0 ∧ i0 ≤ n ∧ Hid (ApIn w10 wr L n ms k T i0 D)) (fun i _ => n - (intOf i).toNat)
              case atStart => exact ⟨0, D, rfl, by omega, HI⟩
              case round =>
                clear HI
                obtain ⟨i0, D, rfl, hi0, HI⟩ := hrel
                by_cases hit : i0 < n
                · have r3 : (0 : Int) ≤ i0 := by omega
                  have r4 : (i0 : Int) < n := by omega
                  have him : i0 < ms.length := by rw [HN.out]; exact hit
                  obtain ⟨e0, e1, e3⟩ := HC10.out wr HI.out.below i0 hit
                  have hR := HOK.out.2.1.right _ (List.getElem_mem him)
                  by_cases h5 : ms[i0].x.val.kind = 5
                  · have htx : Tx ms i0 = ms[i0].x.val.text.data.toList := by
                      rw [Tx_at him]
                      unfold printR
                      rw [if_pos hR]
                      show printV ms[i0].x.val = _
                      unfold printV
                      rw [h5, if_neg (by decide), if_neg (by decide), if_neg (by decide), if_pos rfl]
                    have hsz := (right_bounds hR).2.2
                    have HMEM := Lib.hid (nmA_mem htx)
                    have hSW := HSB.out _ (HB10.out.trans (HI.out.below.mono HB10.out.size))
                    have HNM := Lib.hid (rnames_any ms[i0].x.val.text wr (by omega) hSW.maxI hSW.tab)
                    have hnl := nmA_len ms[i0].x.val.text
                    rw [h5] at e1
                    generalize ms[i0].x.val.text = tx at *
                    obtain ⟨N, hN⟩ : ∃ N, (nmA tx).length = N := ⟨_, rfl⟩
                    have HNL := Lib.hid hN
                    rw [hN] at hnl
                    clear htx hSW hR h5 e0 hN
                    go_wp2_with fail
                    refine HNM.out.mono ?_
                    rintro e w8' hnm
                    obtain ⟨xn, cn, En, rfl, htn, hxn, hbn⟩ := na_of hnm
                    rw [HNL.out]
                    have HTN := Lib.hid (And.intro htn hxn)
                    have HIN := Lib.hid (ApIn.mk (HI.out.below.trans (hbn.mono HI.out.below.size)) (HI.out.row.below hbn HI.out.lt) (Nat.lt_of_lt_of_le HI.out.lt hbn.size) HI.out.lds)
                    have HLW : Hid (L < wr.heap.size) := Lib.hid HI.out.lt
                    have HL0 : Hid (∃ c, But L w8' w8' ∧ BoolAt w8' L n (fun q => if q = i0 then c else D q) ∧ Led ms i0 D (nmA tx) 0 0 c) := Lib.hid ⟨D i0, But.refl _ _, HIN.out.row.same, Led.start⟩
                    clear hnm htn hxn hbn HNM e1 e3 HI
                    go_wp2
                    go_loopw [27] (fun i wq => ∃ j : Nat, i = .int .i64 j ∧ j ≤ N ∧ Hid (∃ c, But L w8' wq ∧ BoolAt wq L n (fun q => if q = i0 then c else D q) ∧ Led ms i0 D (nmA tx) j 0 c)) (fun i _ => N - (intOf i).toNat)
                    case atStart => exact ⟨0, rfl, by omega, HL0⟩
                    case round =>
                      clear HL0
                      obtain ⟨j, rfl, hj, HJ⟩ := hrel
                      by_cases hjt : j < N
                      · have r5 : (0 : Int) ≤ j := by omega
                        have r6 : (j : Int) < N := by omega
                        go_wp2
                        go_loopw [28] (fun i wq => ∃ m : Nat, i = .int .i64 m ∧ m ≤ n ∧ Hid (∃ c, But L w8' wq ∧ BoolAt wq L n (fun q => if q = i0 then c else D q) ∧ Led ms i0 D (nmA tx) j m c)) (fun i _ => n - (intOf i).toNat)
                        case atStart => exact ⟨0, rfl, by omega, HJ⟩
                        case round =>
                          clear HJ
                          obtain ⟨m, rfl, hm, HM⟩ := hrel
                          by_cases hmt : m < n
                          · have r7 : (0 : Int) ≤ m := by omega
                            have r8 : (m : Int) < n := by omega
                            obtain ⟨c, hb1, hrow, hled⟩ := HM.out
                            have HLED := Lib.hid hled
                            have hbw : Below w10.heap.size w10 wr := HIN.out.below.trans (hb1.below (by rw [HL10.out]; exact Nat.le_refl _) HIN.out.below.size)
                            have hmm : m < ms.length := by rw [HN.out]; exact hmt
                            have hjn : j < (nmA tx).length := by rw [HNL.out]; exact hjt
                            obtain ⟨n0, _, _⟩ := HC10.out wr hbw m hmt
                            obtain ⟨bn, on, hxe, hnl2, t0⟩ := (HTN.out.1.other (but_grown hb1) (fun b off e h => (by have := HTN.out.2 b off e; have := HLW.out; injection h with h; omega))) j hjn
                            have l1 : wr.cell? ⟨L, i0, none⟩ = some (.bool c) := by have h := (hrow i0 hit).1; simpa using h
                            have z1 := (hrow i0 hit).2
                            have l2 : wr.cell? ⟨L, m, none⟩ = some (.bool (if m = i0 then c else D m)) := (hrow m hmt).1
                            have HSET : Hid (∀ v, But L w8' (wr.setCell ⟨L, i0, none⟩ (.bool v)).drew ∧ BoolAt (wr.setCell ⟨L, i0, none⟩ (.bool v)).drew L n (fun q => if q = i0 then v else D q)) := Lib.hid fun v => ⟨(hb1.setCell i0 (.bool v)).then_below (below_drewN _ 1), hrow.put2 v⟩
                            have HMD : Hid (m = i0 → c = false → D m = false) := Lib.hid fun e hc => by subst e; exact HLED.out.self hc
                            obtain ⟨dm, hdm⟩ : ∃ d, (if m = i0 then c else D m) = d := ⟨_, rfl⟩
                            rw [hdm] at l2
                            have HDM : Hid (c = false → dm = false → D m = false) := Lib.hid fun hc hd => by
                              by_cases e : m = i0
                              · exact HMD.out e hc
                              · rw [if_neg e] at hdm; rw [hdm]; exact hd
                            obtain ⟨nm2, hnm2⟩ : ∃ s, ms[m].x.name = s := ⟨_, rfl⟩
                            obtain ⟨nj, hnj⟩ : ∃ s, (nmA tx)[j] = s := ⟨_, rfl⟩
                            have HNE : Hid ((nm2.toList == nj.toList) = false → ∀ (hj : j < (nmA tx).length) (hm : m < ms.length), ms[m].x.name = (nmA tx)[j] → D m = false) := Lib.hid fun he hj2 hm2 e => by
                              rw [hnm2, hnj] at e
                              rw [e] at he
                              simp at he
                            rw [hnm2] at n0
                            rw [hnj] at t0
                            subst hxe
                            clear hled hb1 hrow hbw hdm hnm2 hnj hmm hjn HM HMD hnl2
                            cases c with
                            | true =>
                              clear HNE HDM l2 n0 t0
                              go_wp2
                              go_region
                              all_goals
                                go_wp2
                                go_roundw
                                case rel => exact ⟨m + 1, by go_num, by omega, Lib.hid ⟨true, (HSET.out true).1, (HSET.out true).2, Led.yes⟩⟩
                                case measure => simp [intOf]; omega
                            | false =>
                              cases dm with
                              | false =>
                                have HNO : Hid (Led ms i0 D (nmA tx) j (m + 1) false) := Lib.hid (HLED.out.no fun _ _ _ => HDM.out rfl rfl)
                                clear HNE HDM n0 t0
                                go_wp2
                                go_region
                                all_goals
                                  go_wp2
                                  go_roundw
                                  case rel => exact ⟨m + 1, by go_num, by omega, Lib.hid ⟨false, (HSET.out false).1, (HSET.out false).2, HNO.out⟩⟩
                                  case measure => simp [intOf]; omega
                              | true =>
                                by_cases heq : (nm2.toList == nj.toList) = true
                                · clear HNE HDM
                                  go_wp2
                                  go_region
                                  all_goals
                                    go_wp2
                                    go_roundw
                                    case rel => exact ⟨m + 1, by go_num, by omega, Lib.hid ⟨true, (HSET.out true).1, (HSET.out true).2, Led.yes⟩⟩
                                    case measure => simp [intOf]; omega
                                · have heq2 : (nm2.toList == nj.toList) = false := by simpa using heq
                                  have HNO : Hid (Led ms i0 D (nmA tx) j (m + 1) false) := Lib.hid (HLED.out.no (HNE.out heq2))
                                  clear HNE HDM heq
                                  go_wp2
                                  go_region
                                  all_goals
                                    go_wp2
                                    go_roundw
                                    case rel => exact ⟨m + 1, by go_num, by omega, Lib.hid ⟨false, (HSET.out false).1, (HSET.out false).2, HNO.out⟩⟩
                                    case measure => simp [intOf]; omega
                          · have HE : Hid (∃ c, But L w8' wr ∧ BoolAt wr L n (fun q => if q = i0 then c else D q) ∧ Led ms i0 D (nmA tx) (j + 1) 0 c) := Lib.hid (by
                              obtain ⟨c, h1, h2, h3⟩ := HM.out
                              exact ⟨c, h1, h2, h3.row (by rw [HN.out]; omega)⟩)
                            have r8 : ¬ (m : Int) < n := by omega
                            go_wp2
                            go_roundw
                            case rel => exact ⟨j + 1, by go_num, by omega, HE⟩
                            case measure => simp [intOf]; omega
                      · have r6 : ¬ (j : Int) < N := by omega
                        have HE : Hid (∃ D, ApIn w10 wr L n ms k T (i0 + 1) D) := Lib.hid (by
                          obtain ⟨c, h1, h2, h3⟩ := HJ.out
                          exact ⟨_, HIN.out.below.trans (h1.below (by rw [HL10.out]; exact Nat.le_refl _) HIN.out.below.size), h2, Nat.lt_of_lt_of_le HIN.out.lt h1.2.2.2.1, HIN.out.lds.text h3 (by rw [HNL.out]; omega) him HMEM.out⟩)
                        clear HJ
                        obtain ⟨D2, hE⟩ := HE.out
                        have HE2 := Lib.hid hE
                        clear HE hE
                        go_wp2
                        go_roundw
                        case rel => exact ⟨i0 + 1, D2, by go_num, by omega, HE2⟩
                        case measure => simp [intOf]; omega
                  · have HE : Hid (ApIn w10 wr L n ms k T (i0 + 1) D) := Lib.hid ⟨HI.out.below, HI.out.row, HI.out.lt, HI.out.lds.plain him hR h5⟩
                    generalize ms[i0].x.val.kind = kd at e1 h5
                    clear hR him e0 e3 HI
                    go_wp2
                    go_roundw
                    case rel => exact ⟨i0 + 1, D, by go_num, by omega, HE⟩
                    case measure => simp [intOf]; omega
                · have r4 : ¬ (i0 : Int) < n := by omega
                  have HE : Hid (ApIn w10 wr L n ms k (T + 1) 0 D) := Lib.hid ⟨HI.out.below, HI.out.row, HI.out.lt, HI.out.lds.turn (by rw [HN.out]; omega)⟩
                  go_wp2
                  go_roundw
                  case rel => exact ⟨T + 1, D, by go_num, by omega, HE⟩
                  case measure => simp [intOf]; omega
            · have hTn : T = n := by omega
              have HFAR : Hid (∀ i, i < ms.length → D i = false → FarB (Px ms) (plO (namesM ms)) k n i) := Lib.hid (by rw [← hTn]; exact HI.out.lds.old)
              have r2 : ¬ (T : Int) < n := by omega
              have HFN := Lib.hid (HFIN.out D HFAR.out)
              have HDR : Hid (Below w10.heap.size w10 wr ∧ BoolAt wr L n D ∧ L < wr.heap.size) := Lib.hid ⟨HI.out.below, HI.out.row, HI.out.lt⟩
              clear HFIN HFAR HI hTn
              obtain ⟨wx, hwx⟩ : ∃ wx, wx = wr := ⟨_, rfl⟩
              subst hwx
              go_wp2
              go_loopw [29] (fun i wr => ∃ q : Nat, i = .int .i64 q ∧ q ≤ n ∧ Hid (Below wx.heap.size wx wr)) (fun i _ => n - (intOf i).toNat)
              case atStart => exact ⟨0, rfl, by omega, Lib.hid (Below.refl _ _)⟩
              case round =>
                obtain ⟨q, rfl, hq, HQ⟩ := hrel
                by_cases hqt : q < n
                · have r3 : (0 : Int) ≤ q := by omega
                  have r4 : (q : Int) < n := by omega
                  have l1 := ((HDR.out.2.1.below HQ.out HDR.out.2.2) q hqt).1
                  cases hd : D q with
                  | true =>
                    rw [hd] at l1
                    clear hd
                    go_wp2
                    go_roundw
                    case rel => exact ⟨q + 1, by go_num, by omega, HQ⟩
                    case measure => simp [intOf]; omega
                  | false =>
                    rw [hd] at l1
                    have hbq := HDR.out.1.trans (HQ.out.mono HDR.out.1.size)
                    have HST : Hid (∀ W, Below wr.heap.size wr W → Calls Tryz.prog 18 #[.slice (some ⟨gA, q * 6, none⟩) 1 (ca' - q), .slice (some ⟨gB, q * 6, none⟩) 1 (cb - q)] W fun e w' => e = .returned (.bool true) ∧ Below W.heap.size W w') := Lib.hid fun W hb => HFN.out W (hbq.trans (hb.mono hbq.size)) q hqt hd
                    have s1 := HSA.out q hqt
                    have s2 := HSBB.out q hqt
                    have hwq : IntKind.i64.wrap ((q : Int) + 1) = (q : Int) + 1 := IntWalk.i64_in _ (by omega)
                    have HBD : Hid (Below wr.heap.size wr wr.drew) := Lib.hid (below_drewN wr 1)
                    clear hd hbq
                    go_wp2
                    go_region_held3 (fun W => True) (first | trivial)
                      (first
                        | (go_at_call 18; (with_reducible refine (HST.out _ HBD.out).mono ?_); rintro e w2 ⟨rfl, hb2⟩; have HB2 := Lib.hid (HQ.out.trans ((HBD.out.trans (hb2.mono HBD.out.size)).mono HQ.out.size)); clear hb2))
                    go_wp2
                    go_roundw
                    case rel => exact ⟨q + 1, by go_num, by omega, HB2⟩
                    case measure => simp [intOf]; omega
                · have r4 : ¬ (q : Int) < n := by omega
                  have HE : Hid (Below w.heap.size w wr) := Lib.hid (HB10.out.trans ((HDR.out.1.trans (HQ.out.mono HDR.out.1.size)).mono HB10.out.size))
                  go_wp2
                  go_ret
                  exact ⟨rfl, HE.out⟩
        · have d8 : (E8 != 0) = true := by simpa using h8
          subst h7
          clear HO7 HO8
          go_wp2
          go_ret
          exact ⟨rfl, HB8.out⟩
      · have d7 : (E7 != 0) = true := by simpa using h7
        clear HO7 HO8
        go_wp2
        go_ret
        exact ⟨rfl, HB8.out⟩
end Go.Proofs.YtopghlnoklajkaaGreatDoor
