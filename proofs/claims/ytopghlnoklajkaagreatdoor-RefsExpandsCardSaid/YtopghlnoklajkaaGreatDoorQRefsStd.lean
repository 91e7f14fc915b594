/-
  LayMade, RefsStd.
-/
import Derived.Test.YtopghlnoklajkaaGreatDoorQLayMerge
import Derived.Test.YtopghlnoklajkaaGreatDoorQBut
import Derived.Test.YtopghlnoklajkaaGreatDoorQRefsShow
import Derived.Test.YtopghlnoklajkaaGreatDoorQKeyFinds
namespace Go.Proofs.YtopghlnoklajkaaGreatDoor
open Go.ChangeShapes Go.WideShapes Go.ChangeAt Go.RowKit

theorem results_tmp4 {fn : Func} {t u v x : Tmp} (h : fn.results = #[.tmp t, .tmp u, .tmp v, .tmp x]) (tmps : Array Value) (P : Program) (w : World) :
  (results fn tmps).run P w = .ok (.tuple #[tmps.getD t undef, tmps.getD u undef, tmps.getD v undef, tmps.getD x undef]) w := by
 simp [results, h]
theorem map_at {A B C : Type} {f : A → C} {g : B → C} {a : List A} {b : List B} (h : a.map f = b.map g) (i : Nat) (h1 : i < a.length) (h2 : i < b.length) : f a[i] = g b[i] := by
 have h3 : (a.map f)[i]? = (b.map g)[i]? := by rw [h]
 simpa [h1, h2] using h3
theorem made_ok {ks : List KeyV} {ms : List SetM} (hG : GoodK ks) (h : ms.map (·.x) = ks.map dfltS) : LayOk ks ms := by
 have hl : ms.length = ks.length := by simpa using congrArg List.length h
 refine ⟨hl, fun i h1 h2 => ?_, fun i h1 h2 => ?_, fun m hm => ?_⟩
 ·rw [map_at h i h1 h2]; rfl
 ·rw [map_at h i h1 h2]
  have hd := hG.dflt _ (List.getElem_mem h2)
  unfold dfltK at hd
  simp only [Bool.and_eq_true, decide_eq_true_eq] at hd
  obtain ⟨r1, r2, _⟩ := read_right hd.1
  unfold mayV dfltS
  simp [r1, r2, hd.2]
 ·have : m.x ∈ ks.map dfltS := by rw [← h]; exact List.mem_map_of_mem hm
  obtain ⟨k, _, e⟩ := List.mem_map.1 this
  rw [← e]
  exact ⟨Int.le_refl (0 : Int), show (0 : Int) ≤ 5 by decide⟩
set_option maxRecDepth 100000 in
theorem lorigins_none (w : World) : Calls Tryz.prog 48 #[.slice none 0 0] w fun e w' => e = .returned (.bool true) ∧ w = w' := by
 go_enter Tryz.func48, Tryz.ntmps48
 go_wp2
 go_loopw [8] (fun i wr => i = .int .i64 0 ∧ w = wr) (fun _ _ => 0)
 case atStart => exact ⟨rfl, rfl⟩
 case round =>
  obtain ⟨rfl, rfl⟩ := hrel
  go_wp2
  go_ret
  exact ⟨rfl, rfl⟩
def MgRes (ks : List KeyV) (w : World) (e : Ending) (w' : World) : Prop := ∃ dx dc hx hc ms, e = .returned (.tuple #[.pointer (some ⟨w.heap.size, 0, none⟩), .int .i64 0, .int .i64 0, .int .i64 0]) ∧ LayAt (fun b => w.heap.size ≤ b ∧ b < w'.heap.size ∧ b ≠ w.heap.size) w' w.heap.size dx dc hx hc ks ms ∧ LayOk ks ms ∧ ms.map (·.x) = ks.map dfltS ∧ Below w.heap.size w w'
set_option maxHeartbeats 1600000 in
set_option maxRecDepth 100000 in
theorem lmerge_any (ks : List KeyV) (S : Nat) (sx : Option Addr) (sc : Nat) (w : World) (hS : SetAt w S sx sc ks) (hG : GoodK ks) (hT : Tab w) (hU : Units w) (hM : MaxI w) :
  Calls Tryz.prog 23 #[.pointer (some ⟨S, 0, none⟩), .slice none 0 0, .slice none 0 0] w (MgRes ks w) := by
 have HD := Lib.hid (ldefaults_any ks S sx sc w hS hG hT hU hM)
 have HO := Lib.hid (lorigins_none w)
 have HF : Hid (∀ dv hv ms w2, (∃ B, DfIn w w2 w.heap.size B dv hv ks ms) → ms.map (·.x) = ks.map dfltS → MgRes ks w (.returned (.tuple #[.pointer (some ⟨w.heap.size, 0, none⟩), .int .i64 0, .int .i64 0, .int .i64 0])) w2) := Lib.hid fun dv hv ms w2 h1 h2 => by
  obtain ⟨B, h1⟩ := h1
  have ho := made_ok hG h2
  obtain ⟨dx, dc, hx, hc, h3, _, _⟩ := h1.done ho.len
  exact ⟨dx, dc, hx, hc, ms, rfl, h3, ho, h2, h1.below⟩
 clear hS hG hT hU hM
 go_enter Tryz.func23, Tryz.ntmps23
 go_wp2_with fail
 refine HO.out.mono ?_
 rintro e w1 ⟨rfl, rfl⟩
 go_wp2_with fail
 refine HD.out.mono ?_
 rintro e w2 ⟨dv, hv, ms, rfl, h1, h2⟩
 have HE := Lib.hid (HF.out dv hv ms w2 h1 h2)
 clear h1 h2 HD HO HF
 go_wp2
 go_loopw [33] (fun i wr => i = .int .i64 0 ∧ w2 = wr) (fun _ _ => 0)
 case atStart => exact ⟨rfl, rfl⟩
 case round =>
  obtain ⟨rfl, rfl⟩ := hrel
  go_wp2
  (try simp only [Exit.inBlock, Exit.then])
  refine bodyPost_ret (results_tmp4 rfl _ _ _) rfl ?_
  exact HE.out
end Go.Proofs.YtopghlnoklajkaaGreatDoor

namespace Go.Proofs.YtopghlnoklajkaaGreatDoor

theorem GoodK.nil_ : GoodK [] := ⟨fun _ b hb => absurd hb (Nat.not_lt_zero b), Nat.zero_le _, fun _ hk => absurd hk List.not_mem_nil, fun _ hk => absurd hk List.not_mem_nil, fun _ hk => absurd hk List.not_mem_nil⟩
theorem GoodK.add {xs : List KeyV} (h : GoodK xs) {k : KeyV} (hk : Small k) : GoodK (addK xs k) := by
 refine ⟨addK_sorted k h.sorted, addK_len xs k h.len, ?_, ?_, ?_⟩
 all_goals
  intro x hx
  unfold addK at hx
  split at hx
  ·rename_i h0
   unfold insK at hx
   have hmem : x ∈ xs ∨ x = k := by
    rcases List.mem_append.1 hx with hx | hx
    ·exact .inl (List.mem_of_mem_take hx)
    ·rcases List.mem_cons.1 hx with rfl | hx
     ·exact .inr rfl
     ·exact .inl (List.mem_of_mem_drop hx)
   rcases hmem with hm | rfl
   ·first | exact h.form x hm | exact h.dflt x hm | exact h.small x hm
   ·unfold addE at h0
    split at h0
    ·exact absurd h0 (by decide)
    ·split at h0
     ·exact absurd h0 (by decide)
     ·rename_i h1 h2
      first | exact hk | (simpa using h1) | (simpa using h2)
  ·first | exact h.form x hx | exact h.dflt x hx | exact h.small x hx
theorem GoodK.fold : ∀ (l : List KeyV) (xs : List KeyV), GoodK xs → (∀ k ∈ l, Small k) → GoodK (l.foldl addK xs) := by
 intro l
 induction l with
 | nil => intro xs h _; exact h
 | cons k r ih => intro xs h hs; exact ih _ (h.add (hs k (List.mem_cons_self ..))) fun x hx => hs x (List.mem_cons_of_mem _ hx)
theorem sx_good : GoodK stdL := by
 rw [← std_fold]
 refine GoodK.fold _ _ GoodK.nil_ fun k hk => ?_
 rcases List.mem_append.1 hk with hk | hk
 ·rcases List.mem_append.1 hk with hk | hk
  ·exact (std_small netL (by simp)).2 k hk
  ·exact (std_small logL (by simp)).2 k hk
 ·exact (std_small sbL (by simp)).2 k hk
theorem made_ms {ks : List KeyV} {ms : List SetM} (hG : GoodK ks) (h : LayOk ks ms) : MsOk ms := by
 have hnm : ∀ i (hi : i < (namesM ms).length), ∃ h2 : i < ks.length, (namesM ms)[i] = (ks[i]'h2).name := fun i hi => by
  have h1 : i < ms.length := by unfold namesM at hi; rw [List.length_map] at hi; exact hi
  have h2 : i < ks.length := by rw [← h.len]; exact h1
  refine ⟨h2, ?_⟩
  have := h.names i h1 h2
  simp only [namesM, List.getElem_map]
  exact this
 have hform : ∀ s ∈ namesM ms, nameB s.data.toList = true := fun s hs => by
  obtain ⟨i, hi, rfl⟩ := List.getElem_of_mem hs
  obtain ⟨h2, e⟩ := hnm i hi
  rw [e]
  have := hG.form _ (List.getElem_mem h2)
  unfold formK at this
  simp only [Bool.and_eq_true] at this
  exact this.1
 refine ⟨fun i j hi hj he => ?_, fun s hs => ?_, fun s hs he => ?_, h.right, by rw [h.len]; have := hG.len; omega⟩
 ·obtain ⟨h1, e1⟩ := hnm i hi
  obtain ⟨h2, e2⟩ := hnm j hj
  rw [e1, e2] at he
  rcases Nat.lt_trichotomy i j with hlt | rfl | hlt
  ·have := hG.sorted i j h2 hlt
   rw [he] at this
   exact absurd this (by rw [cmpB_refl]; omega)
  ·rfl
  ·have := hG.sorted j i h1 hlt
   rw [he] at this
   exact absurd this (by rw [cmpB_refl]; omega)
 ·have := hform s hs
  unfold nameB at this
  simp only [Bool.and_eq_true, decide_eq_true_eq] at this
  have e : s.data.toList.length = s.size := Array.length_toList
  omega
 ·have := hform s hs
  rw [he] at this
  exact absurd this (by decide)
def stdM : List SetM := stdL.map fun k => ⟨dfltS k, none, 0⟩
theorem sx_pieces : ((List.range 16).all fun i => (piecesB (Tx stdM i)).isSome) = true := by kernel_rfl
theorem sx_names : ((List.range 16).all fun i => (namesL (Px stdM i)).all fun nm => (plO (namesM stdM) nm).isSome) = true := by kernel_rfl
theorem sx_flat : ((List.range 16).all fun i => (scP (Px stdM) (plO (namesM stdM)) i).all fun k => (scP (Px stdM) (plO (namesM stdM)) k).isEmpty) = true := by kernel_rfl
theorem sx_short : ((List.range 16).all fun i => decide ((Ex stdM i).length ≤ 200)) = true := by kernel_rfl
theorem sx_url : Ex stdM 11 = [104, 116, 116, 112, 58, 47, 47, 108, 111, 99, 97, 108, 104, 111, 115, 116, 58, 56, 48, 56, 48] := by kernel_rfl
theorem sx_len : stdM.length = 16 := by kernel_rfl
theorem flat_lead {sc : Nat → List Nat} {n : Nat} (h : ∀ i, i < n → ∀ k ∈ sc i, sc k = []) {i : Nat} (hi : i < n) : ¬ Lead sc i i := fun hl => by
 cases hl with
 | one hk => have := h i hi i hk; rw [this] at hk; cases hk
 | more hk h2 =>
  have he := h i hi _ hk
  cases h2 with
  | one h3 => rw [he] at h3; cases h3
  | more h3 _ => rw [he] at h3; cases h3
theorem sx_right : wrongE stdM = none := by
 have key : ∀ {p : Nat → Bool}, (List.range 16).all p = true → ∀ i, i < stdM.length → p i = true := fun h i hi => List.all_eq_true.1 h i (by rw [sx_len] at hi; exact List.mem_range.2 hi)
 have h1 : fBad stdM = none := firstB_none fun i hi => by
  have := key sx_pieces i hi
  cases hp : piecesB (Tx stdM i) with
  | none => simp only [hp] at this; cases this
  | some l => rfl
 have h2 : fName stdM = none := firstB_none fun i hi => by
  have := List.all_eq_true.1 (key sx_names i hi)
  rw [List.any_eq_false]
  intro nm hn
  have := this nm hn
  cases hp : plO (namesM stdM) nm with
  | none => rw [hp] at this; cases this
  | some l => simp
 have h3 : fLoop stdM = none := firstB_none fun i hi => by
  have : ¬ Lead (scP (Px stdM) (plO (namesM stdM))) i i := flat_lead (n := stdM.length) (fun j hj k hk => by
   have := List.all_eq_true.1 (key sx_flat j hj) k hk
   exact List.isEmpty_iff.1 this) hi
  simpa using this
 have h4 : fLong stdM = none := firstB_none fun i hi => by
  have := key sx_short i hi
  simp only [decide_eq_true_eq] at this
  simp only [decide_eq_false_iff_not]
  omega
 unfold wrongE
 rw [h1, h2, h3, h4]
end Go.Proofs.YtopghlnoklajkaaGreatDoor
