/-
  LawKit, DrvLaid.
-/
import Derived.Test.YtlcgfdijohgnpaaGreatDoorQValueUnit
import Derived.Test.YtlcgfdijohgnpaaGreatDoorQValueLib
import Derived.LaidMore
import Derived.Lib.LaidTab
import Derived.Stop.Joined
import Derived.Stop.LaidErr
import Derived.Lay
import Derived.HandedShaped
namespace Go.Proofs.YtlcgfdijohgnpaaGreatDoor
open Go.ChangeShapes Go.WideShapes Go.ChangeAt Go.RowKit

theorem own : ownKnob Tryz.prog.godebug = none := by kernel_rfl
def tabOf (q : Nat) : List Int := (List.range 32).map fun i : Nat => cls (32 * q + i)
theorem tab_at (q i : Nat) (hi : i < 32) : (tabOf q).getD i 0 = cls (32 * q + i) := by
 simp [tabOf, List.getD, hi]
theorem cells1 : Tryz.prog.cellsOf 5 = 1 := by kernel_rfl
theorem cells32 : Tryz.prog.cellsOf 146 = 32 := by kernel_rfl
theorem cellsUnit : Tryz.prog.cellsOf 179 = 3 := by kernel_rfl
theorem cellsUnits : Tryz.prog.cellsOf 180 = 24 := by kernel_rfl

section
variable {H : Type} {enc : TypeId × Value → H} {w : World} {base : Nat} {sp : Nat → Bool} {held : Bool} {fuel : Nat}
set_option maxRecDepth 100000 in
theorem unit_cells {l : List Value} {a b : Int} {s : List UInt8} {q : List MemPlace} (h : DataW.trod enc Tryz.prog w base sp held fuel 179 l = some (.agg [.lit (.int .i64 a), .lit (.string s), .lit (.int .i64 b)], q)) : l = [.int .i64 a, .string ⟨s.toArray⟩, .int .i64 b] := by
 obtain ⟨xs, m, _, hx, hlen, hxl, hf⟩ := DataW.trod_struct Tryz.underlying179 h
 rw [cellsUnit] at hlen
 have hm : xs.map (·.1) = [.lit (.int .i64 a), .lit (.string s), .lit (.int .i64 b)] := by
  have := congrArg Prod.fst hx; simpa using this.symm
 match l, hlen with
 | [v0, v1, v2], _ =>
  have f0 := hf 0 _ rfl
  have f1 := hf 1 _ rfl
  have f2 := hf 2 _ rfl
  match xs, hm with
  | [x0, x1, x2], hm =>
   simp only [List.map_cons, List.map_nil, List.cons.injEq, and_true] at hm
   obtain ⟨m0, m1, m2⟩ := hm
   obtain ⟨n0, e0, r0, _⟩ := DataW.trod_int Tryz.underlying3 (show DataW.trod enc Tryz.prog w base sp held m 3 [v0] = some x0 from f0)
   obtain ⟨s1, e1, r1, _⟩ := DataW.trod_string Tryz.underlying9 (show DataW.trod enc Tryz.prog w base sp held m 9 [v1] = some x1 from f1)
   obtain ⟨n2, e2, r2, _⟩ := DataW.trod_int Tryz.underlying3 (show DataW.trod enc Tryz.prog w base sp held m 3 [v2] = some x2 from f2)
   rw [r0] at m0; rw [r1] at m1; rw [r2] at m2
   simp only [DataW.lit.injEq, Lit.int.injEq, Lit.string.injEq, true_and] at m0 m1 m2
   simp only [List.cons.injEq, and_true] at e0 e1 e2
   subst e0 e1 e2 m0 m2
   rw [← m1]
set_option maxRecDepth 100000 in
theorem units_cells {cs : List Value} {p : List MemPlace} (h : DataW.trod enc Tryz.prog w base sp held fuel 180 cs = some (Rows.laid_tinderbox_value_units, p)) : cs = unitCells := by
 obtain ⟨xs, m, _, hx, hlen, hxl, hi⟩ := DataW.trod_array Tryz.underlying180 h
 rw [cellsUnits] at hlen
 rw [cellsUnit] at hi
 have hm : xs.map (·.1) = [.agg [.lit (.int .i64 3), .lit (.string []), .lit (.int .i64 1)], .agg [.lit (.int .i64 3), .lit (.string [107]), .lit (.int .i64 1024)], .agg [.lit (.int .i64 3), .lit (.string [109]), .lit (.int .i64 1048576)], .agg [.lit (.int .i64 3), .lit (.string [103]), .lit (.int .i64 1073741824)], .agg [.lit (.int .i64 4), .lit (.string [115]), .lit (.int .i64 1)], .agg [.lit (.int .i64 4), .lit (.string [109]), .lit (.int .i64 60)], .agg [.lit (.int .i64 4), .lit (.string [104]), .lit (.int .i64 3600)], .agg [.lit (.int .i64 4), .lit (.string [100]), .lit (.int .i64 86400)]] := by
  have := congrArg Prod.fst hx
  simpa [Rows.laid_tinderbox_value_units] using this.symm
 have hrow : ∀ i, i < 8 → (cs.drop (i * 3)).take 3 = (unitCells.drop (i * 3)).take 3 := by
  intro i hi8
  have hh := hi i hi8
  have hx2 : ∀ (d : DataW H), (xs.map (·.1))[i]? = some d → ∃ q, xs[i]? = some (d, q) := by
   intro d hd
   rw [List.getElem?_map] at hd
   obtain ⟨y, hy, rfl⟩ := Option.map_eq_some_iff.1 hd
   exact ⟨y.2, hy⟩
  rw [hm] at hx2
  have h8 : i = 0 ∨ i = 1 ∨ i = 2 ∨ i = 3 ∨ i = 4 ∨ i = 5 ∨ i = 6 ∨ i = 7 := by omega
  rcases h8 with rfl | rfl | rfl | rfl | rfl | rfl | rfl | rfl
  all_goals
   obtain ⟨q, hq⟩ := hx2 _ rfl
   rw [hq] at hh
   rw [unit_cells hh]; rfl
 apply List.ext_getElem?
 intro j
 by_cases hj : j < 24
 ·have h1 := congrArg (·[j % 3]?) (hrow (j / 3) (by omega))
  simp only [List.getElem?_take, List.getElem?_drop] at h1
  rw [if_pos (by omega), if_pos (by omega), show j / 3 * 3 + j % 3 = j by omega] at h1
  exact h1
 ·rw [List.getElem?_eq_none (by omega), List.getElem?_eq_none (by show unitCells.length ≤ j; have : unitCells.length = 24 := rfl; omega)]
end

theorem heap_of_var {W : World} {n : String} {g : Nat} {cs : Array Value} (hg : Tryz.prog.globalNamed n = some g) (h : W.var? Tryz.prog n = some cs) : ∃ t fr, W.heap[g]? = some (.cells cs t fr) := by
 unfold World.var? at h
 rw [hg] at h
 simp only [Option.bind_some] at h
 split at h
 ·rename_i c t fr hh
  obtain rfl := Option.some.inj h
  exact ⟨t, fr, hh⟩
 ·cases h
theorem maxI_of_shaped {W : World} (h : W.ShapedOpen Tryz.prog) : MaxI W :=
 Go.Proofs.cell_of_shapedOpen_int (zero := #[.int .i64 0]) (t := 3) h (of_decide_eq_true (by kernel_rfl)) (by kernel_rfl) rfl (by kernel_rfl) (by kernel_rfl) Tryz.underlying3

theorem handed_both {H : Type} {enc : TypeId × Value → H} {a : Assume} {C : Checked} {os : Os} {f : FuncId} {fn : Func} {s : ChangeSpec} {conds : List PathCond} {apart fresh handsOn again : Bool} {X : World → Array Value → Prop}
  (hX : ∀ (w w' : World) (args : Array Value), w.heap = w'.heap → X w args → X w' args)
  (own : ownKnob C.prog.godebug = none) (started : os.Started) (noInit : C.prog.inits.idxOf? f = none) (hfn : C.prog.funcs[f]? = some fn)
  (witness : ∃ (w : World) (tape : Tape) (i : Input), w.os = os ∧ (w.forCall tape i).Shaped C.prog ∧ i.vars = [] ∧ Input.okWide C.prog (w.forCall tape i) .any w.heap.size f i ∧
   ((s.pre enc C.prog fn conds apart (w.forCall tape i).memory i.args ∧ X (w.forCall tape i).memory i.args) ∧ sizedMet enc C.prog fn (OpenSpec.ofChange s) apart (w.forCall tape i).memory i.args) ∧ a.holds C.prog (lone (Frame.enter C.prog f i.args .normal) [] (w.forCall tape i)))
  (contract : ∀ (W : World) (base : Nat) (args : Array Value) (ds gs : List (DataW H)) (before : List MemPlace),
   (∀ (j : Nat) t v, fn.params[j]? = some t → args[j]? = some v → Value.okWide C.prog W .any base t v) →
   DataW.Whole enc C.prog fn.params.toList s.vars apart W args.toList ds gs before → X W args → W.ShapedOpen C.prog →
   Calls C.prog f args W fun e W' => ∃ v, e = .returned v ∧ s.post enc C.prog fn apart fresh handsOn again W args v W') :
  ReturnsInHanded a C os f .any (fun w args => (s.pre enc C.prog fn conds apart w args ∧ X w args) ∧ sizedMet enc C.prog fn (OpenSpec.ofChange s) apart w args) (s.post enc C.prog fn apart fresh handsOn again) := by
 refine returnsInHanded_of_calls own started noInit witness ?_
 intro w tape i _ hsh _ hok hpre _
 obtain ⟨_, _, _, fn', hfn', _, _, _, _, hval⟩ := hok
 have e : fn' = fn := Option.some.inj (hfn'.symm.trans hfn)
 subst e
 obtain ⟨⟨⟨ds, gs, before, hw, _⟩, hx⟩, _⟩ := hpre
 have hw' := DataW.Whole.of_heap (w' := w.forCall tape i) (by rfl) hw
 refine (contract (w.forCall tape i) w.heap.size i.args ds gs before hval hw' (hX _ _ _ (by rfl) hx) hsh).mono fun e W' ⟨v, he, hp⟩ => ?_
 subst he
 exact ChangeSpec.post_blind hp

section
variable {H : Type} {enc : TypeId × Value → H} {P : Program}
theorem lawPost {f : Func} {s : ChangeSpec} {apart fresh handsOn : Bool} {W W' : World} {args : Array Value} {v : Value} {ds gs : List (DataW H)} {before pa pv : List MemPlace}
  (hW : DataW.Whole enc P f.params.toList s.vars apart W args.toList ds gs before)
  (hres : ∀ (b : Nat) (sp : Nat → Bool) (hd : Bool), DataW.TrodAll enc P W' b sp hd f.resultTypes.toList (v.resultList f.resultTypes.size) (s.fn H (ds ++ gs)).results [])
  (hargs : DataW.TrodAll enc P W' 0 (fun b => decide (b < W.heap.size)) true f.params.toList args.toList (s.fn H (ds ++ gs)).args pa)
  (hvars : ∀ sp : Nat → Bool, (∀ p ∈ before, sp p.block = true) → DataW.TrodVars enc P W' sp s.vars (s.fn H (ds ++ gs)).vars pv)
  (hb : Below W.heap.size W W') : s.post enc P f apart fresh handsOn false W args v W' := by
 have hold : ∀ p ∈ before, (fun b => decide (b < W.heap.size)) p.block = true := fun p hp => by simpa using hW.lt p hp
 exact ⟨ds, gs, before, [], pa, pv, hW, hres _ _ _, hargs, hvars _ hold, hb.frame _, fun h => by cases h⟩
end
end Go.Proofs.YtlcgfdijohgnpaaGreatDoor

namespace Go.Proofs.YtlcgfdijohgnpaaGreatDoor
open Go.ChangeShapes Go.WideShapes Go.ChangeAt Go.RowKit

def nmDrvLaid (i : Nat) : String := ((Rows.deriveStandsRow.laid.map Prod.fst)[i]?).getD default
def laidLDrvLaid : List (String × DataW Unit) := [(nmDrvLaid 0, Rows.laid_unicode_utf8_acceptRanges), (nmDrvLaid 1, (Lib.tabData .u8 (tabOf 0))), (nmDrvLaid 2, (Lib.tabData .u8 (tabOf 1))), (nmDrvLaid 3, (Lib.tabData .u8 (tabOf 2))), (nmDrvLaid 4, (Lib.tabData .u8 (tabOf 3))), (nmDrvLaid 5, Rows.laid_tinderbox_value_units), (nmDrvLaid 6, Rows.laid_unicode_utf8_first)]
theorem laid_isDrvLaid : Rows.deriveStandsRow.laid = laidLDrvLaid := by kernel_rfl
set_option maxRecDepth 100000 in
theorem stdDrvLaid {W : World} (h : laidMetH Tryz.prog Rows.deriveStandsRow.laid W) (hsh : W.ShapedOpen Tryz.prog) : Tab W ∧ Units W ∧ MaxI W := by
 rw [MakeChecks.laidMetH_plain _ _ _ (by kernel_rfl), laid_isDrvLaid] at h
 have h0 := h
 have h1 := laidMet.tail (h0 : laidMet Tryz.prog (_ :: _) W)
 have h2 := laidMet.tail (h1 : laidMet Tryz.prog (_ :: _) W)
 have h3 := laidMet.tail (h2 : laidMet Tryz.prog (_ :: _) W)
 have h4 := laidMet.tail (h3 : laidMet Tryz.prog (_ :: _) W)
 have h5 := laidMet.tail (h4 : laidMet Tryz.prog (_ :: _) W)
 have h6 := laidMet.tail (h5 : laidMet Tryz.prog (_ :: _) W)
 have t0 := Lib.tabIs_of_head (g := 1) (t := 146) (by kernel_rfl) (by kernel_rfl) Tryz.underlying146 Tryz.underlying5 cells1 cells32 h1
 have t1 := Lib.tabIs_of_head (g := 2) (t := 146) (by kernel_rfl) (by kernel_rfl) Tryz.underlying146 Tryz.underlying5 cells1 cells32 h2
 have t2 := Lib.tabIs_of_head (g := 3) (t := 146) (by kernel_rfl) (by kernel_rfl) Tryz.underlying146 Tryz.underlying5 cells1 cells32 h3
 have t3 := Lib.tabIs_of_head (g := 4) (t := 146) (by kernel_rfl) (by kernel_rfl) Tryz.underlying146 Tryz.underlying5 cells1 cells32 h4
 have hu : Units W := by
  obtain ⟨ps, ⟨g', t', cs, fuel, p, q, hg', ht', hvar, hd, _, _⟩, _⟩ := h5
  have eg : some g' = some 5 := hg'.symm.trans (by kernel_rfl)
  obtain rfl := Option.some.inj eg
  have et : some t' = some 180 := ht'.symm.trans (by kernel_rfl)
  obtain rfl := Option.some.inj et
  have hcs := units_cells hd
  obtain ⟨t, fr, hh⟩ := heap_of_var hg' hvar
  refine ⟨t, fr, ?_⟩
  rw [hh, ← hcs]
 refine ⟨⟨fun i hi => ?_, fun i hi => ?_, fun i hi => ?_, fun i hi => ?_⟩, hu, maxI_of_shaped hsh⟩
 ·rw [t0.cell (by kernel_rfl) i (by simp [tabOf]; omega), tab_at 0 i hi]; congr 3; omega
 ·rw [t1.cell (by kernel_rfl) i (by simp [tabOf]; omega), tab_at 1 i hi]; congr 3
 ·rw [t2.cell (by kernel_rfl) i (by simp [tabOf]; omega), tab_at 2 i hi]; congr 3
 ·rw [t3.cell (by kernel_rfl) i (by simp [tabOf]; omega), tab_at 3 i hi]; congr 3
theorem doorDrvLaid (os : Os) (args : Array Value) : laidMetH Tryz.prog Rows.deriveStandsRow.laid ((World.laidAll Tryz.prog os Rows.deriveStandsRow.laid).forCall (fun _ _ => 0) ⟨#[], args, []⟩).memory := by
 rw [MakeChecks.laidMetH_plain _ _ _ (by kernel_rfl)]; exact laidMet_laidAll _ (by kernel_rfl) (by kernel_rfl)
end Go.Proofs.YtlcgfdijohgnpaaGreatDoor
