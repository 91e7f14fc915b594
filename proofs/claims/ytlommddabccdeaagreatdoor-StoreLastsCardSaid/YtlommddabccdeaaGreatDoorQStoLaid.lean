/-
  StoLaid.
-/
import Derived.Test.YtlommddabccdeaaGreatDoorQStoOpen
import Derived.Test.YtlommddabccdeaaGreatDoorQGlyphSpec
import Derived.LaidMore
import Derived.Lib.LaidTab
import Derived.Stop.Joined
import Derived.Stop.LaidErr
import Derived.Lay
import Derived.LaidSub
import Derived.LaidHandle
import Derived.HandedShaped
import Derived.Carry
namespace Go.Proofs.YtlommddabccdeaaGreatDoor
open Go.ChangeShapes Go.WideShapes Go.ChangeAt Go.RowKit

theorem own : ownKnob Tryz.prog.godebug = none := by kernel_rfl
theorem laidOut : laidOutB Tryz.prog = true := by kernel_rfl
def glTab (q : Nat) : List Int := (List.range 32).map fun i : Nat => cls (32 * q + i)
theorem tab_at (q i : Nat) (hi : i < 32) : (glTab q).getD i 0 = cls (32 * q + i) := by
 simp [glTab, List.getD, hi]
theorem cells1 : Tryz.prog.cellsOf 5 = 1 := by kernel_rfl
theorem cells32 : Tryz.prog.cellsOf 194 = 32 := by kernel_rfl
def nm (i : Nat) : String := ((Rows.storeLastsRow.laid.map Prod.fst)[i + 1]?).getD default
def laid4 : List (String × DataW Unit) := [(nm 0, Lib.tabData .u8 (glTab 0)), (nm 1, Lib.tabData .u8 (glTab 1)), (nm 2, Lib.tabData .u8 (glTab 2)), (nm 3, Lib.tabData .u8 (glTab 3))]
theorem laid_is : (Rows.storeLastsRow.laid.filter fun x => x.2.handleName?.isNone) = laid4 := by kernel_rfl
theorem hand_is : (Rows.storeLastsRow.laid.filter fun x => x.2.handleName?.isSome) = [("errors.errorType", Rows.laid_errors_errorType)] := by kernel_rfl
theorem oneRow : ((List.range Tryz.prog.types.size).filter fun t => Tryz.prog.rowNamed t [101, 114, 114, 111, 114]) = [143] := by kernel_rfl
theorem handleErr : typeHandle Tryz.prog 143 = .pointer (some ⟨6, 143, none⟩) := by kernel_rfl
theorem sto_hand {W : World} (h : handlesMet Tryz.prog [("errors.errorType", Rows.laid_errors_errorType)] W) : Hand W := by
 obtain ⟨name, u, ty, e1, e2, e3, e4, e5⟩ := h _ (List.mem_singleton.2 rfl)
 have en : name = [101, 114, 114, 111, 114] := (Option.some.inj e1).symm
 subst en
 have eu : some u = some 216 := by rw [← e2]; kernel_rfl
 obtain rfl := Option.some.inj eu
 have hm : ty ∈ (List.range Tryz.prog.types.size).filter fun t => Tryz.prog.rowNamed t [101, 114, 114, 111, 114] := List.mem_filter.2 ⟨List.mem_range.2 e3, e4⟩
 rw [oneRow] at hm
 obtain rfl := List.mem_singleton.1 hm
 rw [handleErr] at e5
 unfold Hand
 simpa using World.var?_cell (g := 5) (by kernel_rfl) e5 0
set_option maxRecDepth 100000 in
theorem stdStoLaid {W : World} (h : laidMetH Tryz.prog Rows.storeLastsRow.laid W) (_hsh : W.ShapedOpen Tryz.prog) : StdX W := by
 rw [laidMetH_iff, laid_is, hand_is] at h
 obtain ⟨h, hh⟩ := h
 refine ⟨?_, sto_hand hh⟩
 have h' := laidMet.tail (h : laidMet Tryz.prog (_ :: _) W)
 have h'' := laidMet.tail (h' : laidMet Tryz.prog (_ :: _) W)
 have h''' := laidMet.tail (h'' : laidMet Tryz.prog (_ :: _) W)
 have h0 := Lib.tabIs_of_head (g := 1) (t := 194) (by kernel_rfl) (by kernel_rfl) Tryz.underlying194 Tryz.underlying5 cells1 cells32 h
 have h1 := Lib.tabIs_of_head (g := 2) (t := 194) (by kernel_rfl) (by kernel_rfl) Tryz.underlying194 Tryz.underlying5 cells1 cells32 h'
 have h2 := Lib.tabIs_of_head (g := 3) (t := 194) (by kernel_rfl) (by kernel_rfl) Tryz.underlying194 Tryz.underlying5 cells1 cells32 h''
 have h3 := Lib.tabIs_of_head (g := 4) (t := 194) (by kernel_rfl) (by kernel_rfl) Tryz.underlying194 Tryz.underlying5 cells1 cells32 h'''
 refine ⟨fun i hi => ?_, fun i hi => ?_, fun i hi => ?_, fun i hi => ?_⟩
 ·rw [h0.cell (by kernel_rfl) i (by simp [glTab]; omega), tab_at 0 i hi]; congr 3; omega
 ·rw [h1.cell (by kernel_rfl) i (by simp [glTab]; omega), tab_at 1 i hi]; congr 3
 ·rw [h2.cell (by kernel_rfl) i (by simp [glTab]; omega), tab_at 2 i hi]; congr 3
 ·rw [h3.cell (by kernel_rfl) i (by simp [glTab]; omega), tab_at 3 i hi]; congr 3

noncomputable def stoDoor (os : Os) : World := (World.doorLaid Tryz.prog 400 os).layVars Tryz.prog laid4
theorem stoDoor_os (os : Os) : (stoDoor os).os = os := World.layVars_os _ _ _
theorem doorStoLaid (os : Os) (args : Array Value) : laidMetH Tryz.prog Rows.storeLastsRow.laid ((stoDoor os).forCall (fun _ _ => 0) ⟨#[], args, []⟩).memory := by
 refine laidMetH_of_parts ?_ (by kernel_rfl)
 have e1 : (laid4.filter fun x => (laid4.map (·.1)).contains x.1) = laid4 := List.filter_eq_self.2 fun x hx => List.contains_iff_mem.2 (List.mem_map.2 ⟨x, hx, rfl⟩)
 have e2 : (laid4.filter fun x => !(laid4.map (·.1)).contains x.1) = [] := List.filter_eq_nil_iff.2 fun x hx => by rw [List.contains_iff_mem.2 (List.mem_map.2 ⟨x, hx, rfl⟩)]; simp
 have h : laidMet Tryz.prog laid4 (stoDoor os) := laidMet_layVars (w0 := World.doorLaid Tryz.prog 400 os) (laid4.map (·.1)) [] (by rw [e1]; rfl) (by rw [e1]; kernel_rfl) (by rw [e1]; kernel_rfl) (by rw [e2]; exact LaidIn.none)
 rw [laid_is]
 exact h.of_heap (by simp [World.memory, World.forCall, Input.heap])

theorem handed_both {H : Type} {enc : TypeId × Value → H} {a : Assume} {C : Checked} {os : Os} {f : FuncId} {fn : Func} {s : ChangeSpec} {conds : List PathCond} {apart fresh handsOn again : Bool} {X : World → Array Value → Prop}
  (hX : ∀ (w w' : World) (args : Array Value), w.heap = w'.heap → X w args → X w' args)
  (own : ownKnob C.prog.godebug = none) (started : os.Started) (noInit : C.prog.inits.idxOf? f = none) (hfn : C.prog.funcs[f]? = some fn)
  (witness : ∃ (w : World) (tape : Tape) (i : Input), w.os = os ∧ (w.forCall tape i).Shaped C.prog ∧ i.vars = [] ∧ Input.okWide C.prog (w.forCall tape i) .any w.heap.size f i ∧
   ((s.pre enc C.prog fn conds apart (w.forCall tape i).memory i.args ∧ X (w.forCall tape i).memory i.args) ∧ sizedMet enc C.prog fn (OpenSpec.ofChange s) apart (w.forCall tape i).memory i.args) ∧ a.holds C.prog (lone (Frame.enter C.prog f i.args .normal) [] (w.forCall tape i)))
  (contract : ∀ (W : World) (base : Nat) (args : Array Value) (ds gs : List (DataW H)) (before : List MemPlace),
   (∀ (j : Nat) t v, fn.params[j]? = some t → args[j]? = some v → Value.okWide C.prog W .any base t v) →
   DataW.Whole enc C.prog fn.params.toList s.vars apart W args.toList ds gs before → X W args → W.ShapedOpen C.prog →
   Calls C.prog f args W fun e W' => ∃ v, e = .returned v ∧ s.post enc C.prog fn apart fresh handsOn again W args v W') :
  ReturnsInHanded a C os f .any (fun w args => (s.pre enc C.prog fn conds apart w args ∧ X w args) ∧ sizedMet enc C.prog fn (OpenSpec.ofChange s) apart w args) (s.post enc C.prog fn apart fresh handsOn again) := by
 refine returnsInHanded_of_calls own started noInit witness ?_
 intro w tape i _ hsh _ hok hpre _
 obtain ⟨_, _, _, fn', hfn', _, _, _, _, hval⟩ := hok
 have e : fn' = fn := Option.some.inj (hfn'.symm.trans hfn)
 subst e
 obtain ⟨⟨⟨ds, gs, before, hw, _⟩, hx⟩, _⟩ := hpre
 have hw' := DataW.Whole.of_heap (w' := w.forCall tape i) (by rfl) hw
 refine (contract (w.forCall tape i) w.heap.size i.args ds gs before hval hw' (hX _ _ _ (by rfl) hx) hsh).mono fun e W' ⟨v, he, hp⟩ => ?_
 subst he
 exact ChangeSpec.post_blind hp

section
variable {H : Type} {enc : TypeId × Value → H} {P : Program}
theorem lawPost {f : Func} {s : ChangeSpec} {apart fresh handsOn : Bool} {W W' : World} {args : Array Value} {v : Value} {ds gs : List (DataW H)} {before pa pv : List MemPlace}
  (hW : DataW.Whole enc P f.params.toList s.vars apart W args.toList ds gs before)
  (hres : ∀ (b : Nat) (sp : Nat → Bool) (hd : Bool), DataW.TrodAll enc P W' b sp hd f.resultTypes.toList (v.resultList f.resultTypes.size) (s.fn H (ds ++ gs)).results [])
  (hargs : DataW.TrodAll enc P W' 0 (fun b => decide (b < W.heap.size)) true f.params.toList args.toList (s.fn H (ds ++ gs)).args pa)
  (hvars : ∀ sp : Nat → Bool, (∀ p ∈ before, sp p.block = true) → DataW.TrodVars enc P W' sp s.vars (s.fn H (ds ++ gs)).vars pv)
  (hb : Below W.heap.size W W') : s.post enc P f apart fresh handsOn false W args v W' := by
 have hold : ∀ p ∈ before, (fun b => decide (b < W.heap.size)) p.block = true := fun p hp => by simpa using hW.lt p hp
 exact ⟨ds, gs, before, [], pa, pv, hW, hres _ _ _, hargs, hvars _ hold, hb.frame _, fun h => by cases h⟩
end
end Go.Proofs.YtlommddabccdeaaGreatDoor
