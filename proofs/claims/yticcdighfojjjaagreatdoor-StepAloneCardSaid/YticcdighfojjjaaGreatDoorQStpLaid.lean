/-
  StpLaid.
-/
import Derived.Test.YticcdighfojjjaaGreatDoorQStpOpen
import Derived.Test.YticcdighfojjjaaGreatDoorQStpStands0
import Derived.Test.YticcdighfojjjaaGreatDoorQGlyphSpec
import Derived.LaidMore
import Derived.Lib.LaidTab
import Derived.Stop.Joined
import Derived.Stop.LaidErr
import Derived.Lay
import Derived.HandedShaped
import Derived.Carry
namespace Go.Proofs.YticcdighfojjjaaGreatDoor
open Go.ChangeShapes Go.WideShapes Go.ChangeAt Go.RowKit

theorem own : ownKnob Tryz.prog.godebug = none := by kernel_rfl
theorem laidOut : laidOutB Tryz.prog = true := by kernel_rfl
def tabOf (q : Nat) : List Int := (List.range 32).map fun i : Nat => cls (32 * q + i)
theorem tab_at (q i : Nat) (hi : i < 32) : (tabOf q).getD i 0 = cls (32 * q + i) := by
  simp [tabOf, List.getD, hi]
theorem cells1 : Tryz.prog.cellsOf 5 = 1 := by kernel_rfl
theorem cells32 : Tryz.prog.cellsOf 112 = 32 := by kernel_rfl
theorem cells64S : Tryz.prog.cellsOf 82 = 1 := by kernel_rfl
theorem cells20S : Tryz.prog.cellsOf 141 = 20 := by kernel_rfl
theorem cells1S : Tryz.prog.cellsOf 9 = 1 := by kernel_rfl
theorem cells5S : Tryz.prog.cellsOf 53 = 5 := by kernel_rfl
theorem cellsES : Tryz.prog.cellsOf 147 = 1 := by kernel_rfl
/-- The names of the listed tables, off the given row. -/
def nm (i : Nat) : String := ((Rows.stepStandsRow.laid.map Prod.fst)[i]?).getD default
def laid10 (r : List (String × DataW Unit)) : List (String × DataW Unit) := (nm 0, Rows.laid_math_bits_deBruijn32tab) :: (nm 1, Rows.laid_math_bits_deBruijn64tab) :: (nm 2, Lib.tabData .u64 Lib.pow10Tab) :: (nm 3, Rows.laid_unicode_utf8_acceptRanges) ::
  (nm 4, Rows.laid_strconv_ErrRange) :: (nm 5, Rows.laid_strconv_ErrSyntax) :: (nm 6, Lib.tabData .u8 (tabOf 0)) :: (nm 7, Lib.tabData .u8 (tabOf 1)) :: (nm 8, Lib.tabData .u8 (tabOf 2)) :: (nm 9, Lib.tabData .u8 (tabOf 3)) :: r
theorem laid_isR : Rows.stepRightsRow.laid = laid10 [(nm 11, Rows.laid_unicode_utf8_first)] := by kernel_rfl
theorem laid_isS : Rows.stepStandsRow.laid = laid10 [(nm 10, Rows.laid_tinderbox_step_names), (nm 11, Rows.laid_unicode_utf8_first)] := by kernel_rfl
theorem starS : "*" ++ "errors.errorString" = "*errors.errorString" := by decide
/-- The one row of that name. -/
theorem rowErr (u : TypeId) (h : Tryz.prog.typeName? 3 u = some "*errors.errorString") : u = 145 :=
  typeName_ptr_named (nm := "errors.errorString") (by rw [starS]; kernel_rfl) (by kernel_rfl) (by decide) u (by rw [starS]; exact h)
theorem heap_of_varS {W : World} {n : String} {g : Nat} {cs : Array Value} (hg : Tryz.prog.globalNamed n = some g) (h : W.var? Tryz.prog n = some cs) : ∃ t fr, W.heap[g]? = some (.cells cs t fr) := by
  unfold World.var? at h
  rw [hg] at h
  simp only [Option.bind_some] at h
  split at h
  · rename_i c t fr hh
    obtain rfl := Option.some.inj h
    exact ⟨t, fr, hh⟩
  · cases h
set_option maxRecDepth 100000 in
theorem std_of_ten {W : World} {r : List (String × DataW Unit)} (h : laidMet Tryz.prog (laid10 r) W) : StdS W ∧ laidMet Tryz.prog r W := by
  unfold laid10 at h
  have h1 := laidMet.tail h
  have h2 := laidMet.tail h1
  have h3 := laidMet.tail h2
  have h4 := laidMet.tail h3
  have h5 := laidMet.tail h4
  have h6 := laidMet.tail h5
  have h7 := laidMet.tail h6
  have h8 := laidMet.tail h7
  have h9 := laidMet.tail h8
  have hr := laidMet.tail h9
  have hp := Lib.tabIs_of_head (g := 8) (t := 141) (by kernel_rfl) (by kernel_rfl) Tryz.underlying141 Tryz.underlying82 cells64S cells20S h2
  obtain ⟨ar, sr, vr, _, _, _⟩ := laid_sentinel (g := 7) (ti := 84) (tp := 145) (te := 147) (ts := 9) h4 (by kernel_rfl) (by kernel_rfl) Tryz.underlying84 rowErr Tryz.underlying145 Tryz.underlying147 rfl rfl Tryz.underlying9 cellsES cells1S
  obtain ⟨a5, s5, vs, _, _, _⟩ := laid_sentinel (g := 6) (ti := 84) (tp := 145) (te := 147) (ts := 9) h5 (by kernel_rfl) (by kernel_rfl) Tryz.underlying84 rowErr Tryz.underlying145 Tryz.underlying147 rfl rfl Tryz.underlying9 cellsES cells1S
  have t0 := Lib.tabIs_of_head (g := 1) (t := 112) (by kernel_rfl) (by kernel_rfl) Tryz.underlying112 Tryz.underlying5 cells1 cells32 h6
  have t1 := Lib.tabIs_of_head (g := 2) (t := 112) (by kernel_rfl) (by kernel_rfl) Tryz.underlying112 Tryz.underlying5 cells1 cells32 h7
  have t2 := Lib.tabIs_of_head (g := 3) (t := 112) (by kernel_rfl) (by kernel_rfl) Tryz.underlying112 Tryz.underlying5 cells1 cells32 h8
  have t3 := Lib.tabIs_of_head (g := 4) (t := 112) (by kernel_rfl) (by kernel_rfl) Tryz.underlying112 Tryz.underlying5 cells1 cells32 h9
  obtain ⟨_, _, hph⟩ := heap_of_varS (g := 8) (by kernel_rfl) hp
  refine ⟨⟨⟨fun i hi => ?_, fun i hi => ?_, fun i hi => ?_, fun i hi => ?_⟩, hp, (Array.getElem?_eq_some_iff.1 hph).1, ⟨_, _, by simpa using World.var?_cell (g := 6) (by kernel_rfl) vs 0⟩, ⟨_, _, by simpa using World.var?_cell (g := 7) (by kernel_rfl) vr 0⟩⟩, hr⟩
  · rw [t0.cell (by kernel_rfl) i (by simp [tabOf]; omega), tab_at 0 i hi]; congr 3; omega
  · rw [t1.cell (by kernel_rfl) i (by simp [tabOf]; omega), tab_at 1 i hi]; congr 3
  · rw [t2.cell (by kernel_rfl) i (by simp [tabOf]; omega), tab_at 2 i hi]; congr 3
  · rw [t3.cell (by kernel_rfl) i (by simp [tabOf]; omega), tab_at 3 i hi]; congr 3
section
variable {H : Type} {enc : TypeId × Value → H} {w : World} {base : Nat} {sp : Nat → Bool} {held : Bool} {fuel : Nat}
set_option maxRecDepth 100000 in
theorem names_cells {cs : List Value} {p : List MemPlace} (h : DataW.trod enc Tryz.prog w base sp held fuel 53 cs = some (Rows.laid_tinderbox_step_names, p)) : cs = funcCells.toList := by
  obtain ⟨xs, m, _, hx, hlen, hxl, hi⟩ := DataW.trod_array Tryz.underlying53 h
  rw [cells5S] at hlen
  rw [cells1S] at hi
  have hm : xs.map (·.1) = [.lit (.string [100, 111, 117, 98, 108, 101]), .lit (.string [108, 111, 119, 101, 114]), .lit (.string [114, 101, 118, 101, 114, 115, 101]), .lit (.string [116, 114, 105, 109]), .lit (.string [117, 112, 112, 101, 114])] := by
    have := congrArg Prod.fst hx
    simpa [Rows.laid_tinderbox_step_names] using this.symm
  match cs, hlen with
  | [v0, v1, v2, v3, v4], _ =>
    match xs, hm with
    | [x0, x1, x2, x3, x4], hm =>
      simp only [List.map_cons, List.map_nil, List.cons.injEq, and_true] at hm
      obtain ⟨m0, m1, m2, m3, m4⟩ := hm
      obtain ⟨s0, e0, r0, _⟩ := DataW.trod_string Tryz.underlying9 (show DataW.trod enc Tryz.prog w base sp held m 9 [v0] = some x0 from hi 0 (by decide))
      obtain ⟨s1, e1, r1, _⟩ := DataW.trod_string Tryz.underlying9 (show DataW.trod enc Tryz.prog w base sp held m 9 [v1] = some x1 from hi 1 (by decide))
      obtain ⟨s2, e2, r2, _⟩ := DataW.trod_string Tryz.underlying9 (show DataW.trod enc Tryz.prog w base sp held m 9 [v2] = some x2 from hi 2 (by decide))
      obtain ⟨s3, e3, r3, _⟩ := DataW.trod_string Tryz.underlying9 (show DataW.trod enc Tryz.prog w base sp held m 9 [v3] = some x3 from hi 3 (by decide))
      obtain ⟨s4, e4, r4, _⟩ := DataW.trod_string Tryz.underlying9 (show DataW.trod enc Tryz.prog w base sp held m 9 [v4] = some x4 from hi 4 (by decide))
      rw [r0] at m0; rw [r1] at m1; rw [r2] at m2; rw [r3] at m3; rw [r4] at m4
      simp only [DataW.lit.injEq, Lit.string.injEq] at m0 m1 m2 m3 m4
      simp only [List.cons.injEq, and_true] at e0 e1 e2 e3 e4
      have fin : ∀ (s : ByteArray) (l : List UInt8), s.data.toList = l → s = ⟨l.toArray⟩ := fun s l h => by rw [← h]
      subst e0 e1 e2 e3 e4
      rw [fin _ _ m0, fin _ _ m1, fin _ _ m2, fin _ _ m3, fin _ _ m4]
      rfl
end
set_option maxRecDepth 100000 in
theorem stdStpLaid {W : World} (h : laidMetH Tryz.prog Rows.stepRightsRow.laid W) (_hsh : W.ShapedOpen Tryz.prog) : StdS W := by
  rw [MakeChecks.laidMetH_plain _ _ _ (by kernel_rfl), laid_isR] at h
  exact (std_of_ten h).1
set_option maxRecDepth 100000 in
theorem stdNStpLaid {W : World} (h : laidMetH Tryz.prog Rows.stepStandsRow.laid W) (_hsh : W.ShapedOpen Tryz.prog) : StdN W := by
  rw [MakeChecks.laidMetH_plain _ _ _ (by kernel_rfl), laid_isS] at h
  obtain ⟨hs, h10⟩ := std_of_ten h
  refine ⟨hs, ?_⟩
  obtain ⟨ps, ⟨g', t', cs, fuel, p, q, hg', ht', hvar, hd, _, _⟩, _⟩ := h10
  have eg : some g' = some 0 := hg'.symm.trans (by kernel_rfl)
  obtain rfl := Option.some.inj eg
  have et : some t' = some 53 := ht'.symm.trans (by kernel_rfl)
  obtain rfl := Option.some.inj et
  have hcs := names_cells hd
  obtain ⟨t, fr, hh⟩ := heap_of_varS hg' hvar
  refine ⟨t, fr, ?_⟩
  rw [hh]
  congr 2
  exact Array.toList_inj.1 hcs
theorem doorStpLaid (os : Os) (args : Array Value) : laidMetH Tryz.prog Rows.stepRightsRow.laid ((World.laidAll Tryz.prog os Rows.stepRightsRow.laid).forCall (fun _ _ => 0) ⟨#[], args, []⟩).memory := by
  rw [MakeChecks.laidMetH_plain _ _ _ (by kernel_rfl)]; exact laidMet_laidAll _ (by kernel_rfl) (by kernel_rfl)
theorem doorNStpLaid (os : Os) (args : Array Value) : laidMetH Tryz.prog Rows.stepStandsRow.laid ((World.laidAll Tryz.prog os Rows.stepStandsRow.laid).forCall (fun _ _ => 0) ⟨#[], args, []⟩).memory := by
  rw [MakeChecks.laidMetH_plain _ _ _ (by kernel_rfl)]; exact laidMet_laidAll _ (by kernel_rfl) (by kernel_rfl)

/-- A law's return, the tables and the world's shape being known. -/
theorem handed_both {H : Type} {enc : TypeId × Value → H} {a : Assume} {C : Checked} {os : Os} {f : FuncId} {fn : Func} {s : ChangeSpec} {conds : List PathCond} {apart fresh handsOn again : Bool} {X : World → Array Value → Prop}
    (hX : ∀ (w w' : World) (args : Array Value), w.heap = w'.heap → X w args → X w' args)
    (own : ownKnob C.prog.godebug = none) (started : os.Started) (noInit : C.prog.inits.idxOf? f = none) (hfn : C.prog.funcs[f]? = some fn)
    (witness : ∃ (w : World) (tape : Tape) (i : Input), w.os = os ∧ (w.forCall tape i).Shaped C.prog ∧ i.vars = [] ∧ Input.okWide C.prog (w.forCall tape i) .any w.heap.size f i ∧
      ((s.pre enc C.prog fn conds apart (w.forCall tape i).memory i.args ∧ X (w.forCall tape i).memory i.args) ∧ sizedMet enc C.prog fn (OpenSpec.ofChange s) apart (w.forCall tape i).memory i.args) ∧ a.holds C.prog (lone (Frame.enter C.prog f i.args .normal) [] (w.forCall tape i)))
    (contract : ∀ (W : World) (base : Nat) (args : Array Value) (ds gs : List (DataW H)) (before : List MemPlace),
      (∀ (j : Nat) t v, fn.params[j]? = some t → args[j]? = some v → Value.okWide C.prog W .any base t v) →
      DataW.Whole enc C.prog fn.params.toList s.vars apart W args.toList ds gs before → X W args → W.ShapedOpen C.prog →
      Calls C.prog f args W fun e W' => ∃ v, e = .returned v ∧ s.post enc C.prog fn apart fresh handsOn again W args v W') :
    ReturnsInHanded a C os f .any (fun w args => (s.pre enc C.prog fn conds apart w args ∧ X w args) ∧ sizedMet enc C.prog fn (OpenSpec.ofChange s) apart w args) (s.post enc C.prog fn apart fresh handsOn again) := by
  refine returnsInHanded_of_calls own started noInit witness ?_
  intro w tape i _ hsh _ hok hpre _
  obtain ⟨_, _, _, fn', hfn', _, _, _, _, hval⟩ := hok
  have e : fn' = fn := Option.some.inj (hfn'.symm.trans hfn)
  subst e
  obtain ⟨⟨⟨ds, gs, before, hw, _⟩, hx⟩, _⟩ := hpre
  have hw' := DataW.Whole.of_heap (w' := w.forCall tape i) (by rfl) hw
  refine (contract (w.forCall tape i) w.heap.size i.args ds gs before hval hw' (hX _ _ _ (by rfl) hx) hsh).mono fun e W' ⟨v, he, hp⟩ => ?_
  subst he
  exact ChangeSpec.post_blind hp

section
variable {H : Type} {enc : TypeId × Value → H} {P : Program}
/-- The end of a law: its one result is plain, and below the heap's old size all is as it was. -/
theorem lawPost {f : Func} {s : ChangeSpec} {apart fresh handsOn : Bool} {W W' : World} {args : Array Value} {v : Value} {ds gs : List (DataW H)} {before pa pv : List MemPlace}
    (hW : DataW.Whole enc P f.params.toList s.vars apart W args.toList ds gs before)
    (hres : ∀ (b : Nat) (sp : Nat → Bool) (hd : Bool), DataW.TrodAll enc P W' b sp hd f.resultTypes.toList (v.resultList f.resultTypes.size) (s.fn H (ds ++ gs)).results [])
    (hargs : DataW.TrodAll enc P W' 0 (fun b => decide (b < W.heap.size)) true f.params.toList args.toList (s.fn H (ds ++ gs)).args pa)
    (hvars : ∀ sp : Nat → Bool, (∀ p ∈ before, sp p.block = true) → DataW.TrodVars enc P W' sp s.vars (s.fn H (ds ++ gs)).vars pv)
    (hb : Below W.heap.size W W') : s.post enc P f apart fresh handsOn false W args v W' := by
  have hold : ∀ p ∈ before, (fun b => decide (b < W.heap.size)) p.block = true := fun p hp => by simpa using hW.lt p hp
  exact ⟨ds, gs, before, [], pa, pv, hW, hres _ _ _, hargs, hvars _ hold, hb.frame _, fun h => by cases h⟩
end
section
variable {H : Type} {enc : TypeId × Value → H} {P : Program} {w : World} {base : Nat} {spare : Nat → Bool} {held : Bool}
/-- Five arguments. -/
theorem trodAll_five {t0 t1 t2 t3 t4 : TypeId} {args : Array Value} {ds : List (DataW H)} {ps : List MemPlace} (h : DataW.TrodAll enc P w base spare held [t0, t1, t2, t3, t4] args.toList ds ps) :
    ∃ v0 v1 v2 v3 v4 d0 d1 d2 d3 d4 p0 p1 p2 p3 p4, args = #[v0, v1, v2, v3, v4] ∧ ds = [d0, d1, d2, d3, d4] ∧ ps = p0 ++ p1 ++ p2 ++ p3 ++ p4 ∧ DataW.Trod enc P w base spare held t0 v0 d0 p0 ∧ DataW.Trod enc P w base spare held t1 v1 d1 p1 ∧ DataW.Trod enc P w base spare held t2 v2 d2 p2 ∧ DataW.Trod enc P w base spare held t3 v3 d3 p3 ∧ DataW.Trod enc P w base spare held t4 v4 d4 p4 := by
  obtain ⟨v0, vs, d0, ds0, p0, q, hargs, rfl, rfl, hd, hrest⟩ := trodAll_cons h
  obtain ⟨v1, v2, v3, v4, d1, d2, d3, d4, p1, p2, p3, p4, hv, rfl, rfl, h1, h2, h3, h4⟩ := trodAll_four (args := vs.toArray) hrest
  have hvs : vs = [v1, v2, v3, v4] := by simpa using congrArg Array.toList hv
  subst hvs
  exact ⟨v0, v1, v2, v3, v4, d0, d1, d2, d3, d4, p0, p1, p2, p3, p4, by cases args; simp_all, rfl, by simp, hd, h1, h2, h3, h4⟩
theorem trodAll_mk5 {t0 t1 t2 t3 t4 : TypeId} {v0 v1 v2 v3 v4 : Value} {d0 d1 d2 d3 d4 : DataW H} {p0 p1 p2 p3 p4 : List MemPlace} (h0 : DataW.Trod enc P w base spare held t0 v0 d0 p0) (h1 : DataW.Trod enc P w base spare held t1 v1 d1 p1) (h2 : DataW.Trod enc P w base spare held t2 v2 d2 p2)
    (h3 : DataW.Trod enc P w base spare held t3 v3 d3 p3) (h4 : DataW.Trod enc P w base spare held t4 v4 d4 p4) : DataW.TrodAll enc P w base spare held [t0, t1, t2, t3, t4] [v0, v1, v2, v3, v4] [d0, d1, d2, d3, d4] (p0 ++ (p1 ++ (p2 ++ (p3 ++ p4)))) := ⟨p0, p1 ++ (p2 ++ (p3 ++ p4)), h0, trodAll_mk4 h1 h2 h3 h4, rfl⟩
end
end Go.Proofs.YticcdighfojjjaaGreatDoor
