/-
  RefsXp, RefsMeanM, RefsAwake, RefsLaw0.
-/
import Derived.Test.YtopghlnoklajkaaGreatDoorQRefsShow
import Derived.Test.YtopghlnoklajkaaGreatDoorQRefsStd
import Derived.Test.YtopghlnoklajkaaGreatDoorQLayAll
import Derived.Test.YtopghlnoklajkaaGreatDoorQLayPut
import Derived.Test.YtopghlnoklajkaaGreatDoorQLayGet
import Derived.Test.YtopghlnoklajkaaGreatDoorQRefsNmW
import Derived.Test.YtopghlnoklajkaaGreatDoorQSetOwn
import Derived.Laws.StructEq
import Derived.Deep.RegionHeld3
namespace Go.Proofs.YtopghlnoklajkaaGreatDoor
open Go.ChangeShapes Go.WideShapes Go.ChangeAt Go.RowKit

section
variable {ls ms : List SetM}
theorem same_at (h : ls.map (·.x) = ms.map (·.x)) (i : Nat) : (ls[i]?).map (·.x) = (ms[i]?).map (·.x) := by
 rw [← List.getElem?_map, ← List.getElem?_map, h]
theorem Tx_same (h : ls.map (·.x) = ms.map (·.x)) : Tx ls = Tx ms := by
 funext i
 have := same_at h i
 unfold Tx
 cases h1 : ls[i]? with
 | none => cases h2 : ms[i]? with
  | none => rfl
  | some m => rw [h1, h2] at this; cases this
 | some l => cases h2 : ms[i]? with
  | none => rw [h1, h2] at this; cases this
  | some m =>
   rw [h1, h2] at this
   have e : l.x = m.x := Option.some.inj this
   simp only
   rw [e]
theorem Px_same (h : ls.map (·.x) = ms.map (·.x)) : Px ls = Px ms := by
 funext i; unfold Px; rw [Tx_same h]
theorem names_same (h : ls.map (·.x) = ms.map (·.x)) : namesM ls = namesM ms := by
 have e : ∀ l : List SetM, namesM l = (l.map (·.x)).map (·.name) := fun l => by unfold namesM; rw [List.map_map]; rfl
 rw [e, e, h]
theorem len_same (h : ls.map (·.x) = ms.map (·.x)) : ls.length = ms.length := by simpa using congrArg List.length h
theorem Ex_same (h : ls.map (·.x) = ms.map (·.x)) : Ex ls = Ex ms := by
 funext i; unfold Ex; rw [Px_same h, names_same h, len_same h]
theorem wrong_same (h : ls.map (·.x) = ms.map (·.x)) : wrongE ls = wrongE ms := by
 have h1 : fBad ls = fBad ms := by unfold fBad; rw [Tx_same h, len_same h]
 have h2 : fName ls = fName ms := by unfold fName; rw [Px_same h, len_same h, names_same h]
 have h3 : fLoop ls = fLoop ms := by unfold fLoop; rw [Px_same h, len_same h, names_same h]
 have h4 : fLong ls = fLong ms := by unfold fLong; rw [Ex_same h, len_same h]
 unfold wrongE
 rw [h1, h2, h3, h4]
theorem nameAt_same (h : ls.map (·.x) = ms.map (·.x)) (k : Nat) : nameAt ls k = nameAt ms k := by unfold nameAt; rw [names_same h]
end
def expS (ms : List SetM) (i : Nat) (x : SetV) : SetV := if x.val.kind = 5 then ⟨x.name, ⟨5, 0, mkB (Ex ms i), []⟩, x.from_⟩ else x
theorem expS_name (ms : List SetM) (i : Nat) (x : SetV) : (expS ms i x).name = x.name := by unfold expS; split <;> rfl
theorem long_none {ms : List SetM} (h : wrongE ms = none) : fLong ms = none := by
 unfold wrongE at h
 repeat' split at h
 all_goals first | assumption | cases h
theorem Ex_short {ms : List SetM} (h : wrongE ms = none) (i : Nat) (hi : i < ms.length) : (Ex ms i).length ≤ 200 := by
 have := firstB_no (long_none h) i hi
 simpa using this
theorem right_exp {ms : List SetM} (h : wrongE ms = none) (i : Nat) (hi : i < ms.length) : rightV ⟨5, 0, mkB (Ex ms i), []⟩ = true := by
 have h1 := Ex_short h i hi
 have h2 : textV (Ex ms i) = 0 := by
  unfold textV
  rw [Ex_text, if_neg (by simp), if_neg (by omega)]
 unfold rightV
 simp [mkB_list, h2]
theorem may_exp {ms : List SetM} (h : wrongE ms = none) (i : Nat) (hi : i < ms.length) {k : KeyV} {v : Val} (hv : mayV k v = true) (h5 : v.kind = 5) : mayV k ⟨5, 0, mkB (Ex ms i), []⟩ = true := by
 unfold mayV at hv ⊢
 simp only [Bool.and_eq_true, decide_eq_true_eq] at hv ⊢
 refine ⟨⟨right_exp h i hi, ?_⟩, by rw [← hv.2, h5]⟩
 unfold withinV
 rw [right_exp h i hi]
 simp
theorem expS_still {ms : List SetM} {i : Nat} {x : SetV} (hr : rightV x.val = true) (h : x.val.kind = 5 → mkB (Ex ms i) = x.val.text) : expS ms i x = x := by
 unfold expS
 split
 ·rename_i h5
  obtain ⟨nm, ⟨k, n, t, ws⟩, fr⟩ := x
  simp only at h5 h hr ⊢
  subst h5
  unfold rightV at hr
  simp at hr
  obtain ⟨⟨h1, _⟩, h3⟩ := hr
  rw [h rfl, h1, h3]
 ·rfl
theorem put_ok {ks : List KeyV} {ms : List SetM} (h : LayOk ks ms) {k : Nat} (hk : k < ms.length) (hk2 : k < ks.length) {v : Val} {fr : Int} (hv : mayV ks[k] v = true) (hf : 0 ≤ fr ∧ fr ≤ 5) (y : Option Addr) (d : Nat) : LayOk ks (ms.set k ⟨⟨ms[k].x.name, v, fr⟩, y, d⟩) := by
 refine ⟨by rw [List.length_set]; exact h.len, fun i h1 h2 => ?_, fun i h1 h2 => ?_, fun m hm => ?_⟩
 ·rw [List.getElem_set]
  split
  ·rename_i e; subst e; exact h.names k hk h2
  ·exact h.names i (by simpa using h1) h2
 ·rw [List.getElem_set]
  split
  ·rename_i e; subst e; exact hv
  ·exact h.may i (by simpa using h1) h2
 ·rcases List.mem_or_eq_of_mem_set hm with h1 | rfl
  ·exact h.from_ m h1
  ·exact hf
theorem Tab.but {w w' : World} {X : Nat} {dx hx : Option Addr} {n c m d : Nat} {t : TypeId} (h : Tab w) (hX : w.heap[X]? = some (Obj.cells #[.slice dx n c, .slice hx m d] t)) (hb : But X w w') : Tab w' := by
 have key : ∀ (g : Nat) (f : Nat → Int), (∀ i : Nat, i < 32 → w.cell? ⟨g, i, none⟩ = some (.int .u8 (f i))) → ∀ i : Nat, i < 32 → w'.cell? ⟨g, i, none⟩ = some (.int .u8 (f i)) := fun g f hg i hi => by
  have hne : g ≠ X := fun e => by
   subst e
   have h0 := hg 0 (by decide)
   rw [cell_of_row w g 0 _ _ _ hX] at h0
   cases h0
  rw [hb.cell (p := ⟨g, i, none⟩) (lt_of_cell (hg i hi)) hne]
  exact hg i hi
 exact ⟨key _ _ h.1, key _ _ h.2.1, key _ _ h.2.2.1, key _ _ h.2.2.2⟩
def XpRes (F0 : Nat → Prop) (w : World) (X : Nat) (dx : Option Addr) (dc : Nat) (ks : List KeyV) (ms : List SetM) (e : Ending) (w' : World) : Prop :=
 match wrongE ms with
 | some (E, k) => e = .returned (.tuple #[.int .i64 E, .string (nameAt ms k)]) ∧ Below w.heap.size w w'
 | none => e = .returned (.tuple #[.int .i64 0, .string ⟨#[]⟩]) ∧ But X w w' ∧ ∃ F hx hc ms', (∀ b, F b → F0 b ∨ w.heap.size ≤ b) ∧ LayAt F w' X dx dc hx hc ks ms' ∧ LayOk ks ms' ∧ ms'.length = ms.length ∧ ∀ j (h1 : j < ms'.length) (h2 : j < ms.length), ms'[j].x = expS ms j ms[j].x
theorem wrong_is {ms : List SetM} {E : Int} {k : Nat} (h : wrongE ms = some (E, k)) : 100 ≤ E ∧ E ≤ 103 := by
 unfold wrongE at h
 repeat' split at h
 all_goals first | (cases h; decide) | cases h
theorem nameAt_size {ms : List SetM} (h : MsOk ms) (k : Nat) : (nameAt ms k).size ≤ 32 := by
 unfold nameAt
 rw [List.getD_eq_getElem?_getD]
 cases hk : (namesM ms)[k]? with
 | none => decide
 | some s => exact h.small s (List.mem_of_getElem? hk)
theorem But.trans_ {S : Nat} {a b c : World} (h : But S a b) (k : But S b c) : But S a c :=
 ⟨k.1.trans h.1, k.2.1.trans h.2.1, k.2.2.1.trans h.2.2.1, Nat.le_trans h.2.2.2.1 k.2.2.2.1, fun x hx hn => (k.2.2.2.2 x (Nat.lt_of_lt_of_le hx h.2.2.2.1) hn).trans (h.2.2.2.2 x hx hn)⟩
structure XpIn (F0 : Nat → Prop) (N : Nat) (w2 W : World) (X : Nat) (dx : Option Addr) (dc : Nat) (ks : List KeyV) (ms : List SetM) (k : Nat) : Prop where
 but : But X w2 W
 le : N ≤ w2.heap.size
 at_ : ∃ F hx hc ns, (∀ b, F b → F0 b ∨ N ≤ b) ∧ LayAt F W X dx dc hx hc ks ns ∧ LayOk ks ns ∧ ns.length = ms.length ∧ ∀ j (h1 : j < ns.length) (h2 : j < ms.length), ns[j].x = if j < k then expS ms j ms[j].x else ms[j].x
theorem XpIn.start {F : Nat → Prop} {w w2 : World} {X : Nat} {dx hx : Option Addr} {dc hc : Nat} {ks : List KeyV} {ms : List SetM} (h : LayAt F w X dx dc hx hc ks ms) (hok : LayOk ks ms) (hb : Below w.heap.size w w2) : XpIn F w.heap.size w2 w2 X dx dc ks ms 0 :=
 ⟨But.refl _ _, hb.size, F, hx, hc, ms, fun b h => .inl h, h.below hb, hok, rfl, fun j h1 h2 => by rw [if_neg (by omega)]⟩
theorem XpIn.after {F0 : Nat → Prop} {N : Nat} {w2 W W' : World} {X : Nat} {dx : Option Addr} {dc : Nat} {ks : List KeyV} {ms : List SetM} {k : Nat} (h : XpIn F0 N w2 W X dx dc ks ms k) (hb : Below W.heap.size W W') : XpIn F0 N w2 W' X dx dc ks ms k := by
 obtain ⟨h1, hle, F, hx, hc, ns, hF, h2, h3⟩ := h
 exact ⟨h1.then_below hb, hle, F, hx, hc, ns, hF, h2.below hb, h3⟩
theorem XpIn.next {F0 : Nat → Prop} {N : Nat} {w2 W : World} {X : Nat} {dx : Option Addr} {dc : Nat} {ks : List KeyV} {ms : List SetM} {k : Nat} (h : XpIn F0 N w2 W X dx dc ks ms k) (hk : k < ms.length) (he : expS ms k ms[k].x = ms[k].x) : XpIn F0 N w2 W X dx dc ks ms (k + 1) := by
 obtain ⟨h1, hle, F, hx, hc, ns, hF, h2, h3, h4, h5⟩ := h
 refine ⟨h1, hle, F, hx, hc, ns, hF, h2, h3, h4, fun j a b => ?_⟩
 rw [h5 j a b]
 by_cases e : j < k
 ·rw [if_pos e, if_pos (by omega)]
 ·rw [if_neg e]
  by_cases e2 : j = k
  ·subst e2; rw [if_pos (by omega), he]
  ·rw [if_neg (by omega)]
theorem field_txt (W : World) (t : ByteArray) (b : Bool) : (Instr.field 93 (.agg #[.string t, .bool b]) 0).run Tryz.prog W = .ok (.string t) W := by
 simp [Instr.field, asAgg, run_underlying Tryz.underlying93, Tryz.isAgg9, go_sem]
theorem xp_put {F0 : Nat → Prop} {N : Nat} {w2 W : World} {X : Nat} {dx : Option Addr} {dc : Nat} {ks : List KeyV} {ms : List SetM} {q : Nat} (h : XpIn F0 N w2 W X dx dc ks ms q) (hw : wrongE ms = none) (hm : MsOk ms) (hok : LayOk ks ms) (hs : Sorted ks) (hq : q < ms.length) (h5 : ms[q].x.val.kind = 5) (hT : Tab W) :
  Calls Tryz.prog 22 #[.pointer (some ⟨X, 0, none⟩), .string ms[q].x.name, argV ⟨5, 0, mkB (Ex ms q), []⟩ none 0, .int .i64 ms[q].x.from_] W fun e w' => (∃ v, e = .returned v) ∧ XpIn F0 N w2 w' X dx dc ks ms (q + 1) := by
 obtain ⟨hbut, hle, F, hx, hc, ns, hF, hat, hokn, hlen, hns⟩ := h
 have hsz : (mkB (Ex ms q)).size ≤ 200 := by rw [mkB_size]; exact Ex_short hw q hq
 have hnames : namesM ns = namesM ms := by
  unfold namesM
  refine List.ext_getElem (by simp [hlen]) fun j a b => ?_
  rw [List.getElem_map, List.getElem_map, hns j (by simpa using a) (by simpa using b)]
  split
  ·exact expS_name _ _ _
  ·rfl
 have hqn : q < ns.length := by rw [hlen]; exact hq
 have hqk : q < ks.length := by rw [← hok.len]; exact hq
 have hqq : ns[q].x = ms[q].x := by rw [hns q hqn hq, if_neg (by omega)]
 have hpl : placeN (namesM ns) ms[q].x.name = (q : Int) := by
  have hnn : q < (namesM ms).length := by unfold namesM; rw [List.length_map]; exact hq
  have := place_self hm.dis hnn
  have e : (namesM ms)[q] = ms[q].x.name := by simp [namesM]
  rw [hnames, ← e]; exact this
 have hmay := may_exp hw q hq (hok.may q hq hqk) h5
 have hfr := hok.from_ ms[q] (List.getElem_mem hq)
 have harg : ArgOk W ⟨5, 0, mkB (Ex ms q), []⟩ none 0 := ⟨fun k hk => absurd hk (by simp), by simp, by simp, fun k hk => absurd hk (by simp), by show (mkB (Ex ms q)).size ≤ maxLen; unfold maxLen; omega⟩
 refine (lput_any F X W dx hx dc hc ks ns hat hokn hs (by rw [hnames]; exact hm.dis) (by rw [hlen]; exact hm.few) ms[q].x.name ⟨5, 0, mkB (Ex ms q), []⟩ none 0 harg (by simp) (fun k hk => absurd hk (by simp)) (by show (mkB (Ex ms q)).size ≤ _; omega) ms[q].x.from_ hT).mono ?_
 rintro e w' ⟨E, rfl, h1 | ⟨j, hj, hj2, hp, h1⟩⟩
 ·have := h1.1
  rw [hpl] at this; omega
 ·rw [hpl] at hp
  obtain rfl : j = q := by omega
  rcases h1 with ⟨h2, _⟩ | ⟨_, h2, _⟩ | ⟨_, _, _, hx', hc', y, d, h3, h4⟩
  ·rw [hmay] at h2; cases h2
  ·exact absurd hfr h2
  ·refine ⟨⟨_, rfl⟩, hbut.trans_ h4, hle, _, hx', hc', _, (fun b hb => hb.elim (hF b) fun hb => .inr (Nat.le_trans (Nat.le_trans hle hbut.2.2.2.1) hb.1)), h3, put_ok hokn hqn hqk hmay hfr y d, by rw [List.length_set]; exact hlen, fun i a b => ?_⟩
   rw [List.getElem_set]
   split
   ·rename_i e
    subst e
    rw [if_pos (by omega)]
    unfold expS
    rw [if_pos h5, hqq]
   ·rename_i e
    rw [hns i (by simpa using a) b]
    by_cases h6 : i < j
    ·rw [if_pos h6, if_pos (by omega)]
    ·rw [if_neg h6, if_neg (by omega)]
set_option maxHeartbeats 3200000 in
set_option maxRecDepth 100000 in
theorem expand_none (w : World) : Calls Tryz.prog 16 #[.pointer none] w fun e w' => e = .returned (.tuple #[.int .i64 1, .string ⟨#[]⟩]) ∧ w = w' := by
 go_enter Tryz.func16, Tryz.ntmps16
 go_wp2
 go_ret2
 exact ⟨rfl, rfl⟩
set_option maxHeartbeats 6400000 in
set_option maxRecDepth 100000 in
theorem expand_any (F : Nat → Prop) (X : Nat) (w : World) (dx hx : Option Addr) (dc hc : Nat) (ks : List KeyV) (ms : List SetM) (n : Nat) (h : LayAt F w X dx dc hx hc ks ms) (hok : LayOk ks ms) (hs : Sorted ks) (hn : ms.length = n) (hm : MsOk ms) (hS : Std w) :
  Calls Tryz.prog 16 #[.pointer (some ⟨X, 0, none⟩)] w (XpRes F w X dx dc ks ms) := by
 have hfew : n ≤ 1000 := by rw [← hn]; exact hm.few
 have hnk : ks.length = n := by rw [← hok.len]; exact hn
 have HAL := Lib.hid (lall_any F X w dx hx dc hc ks ms h hok hm.few)
 have HEP : Hid (∀ B lv (ls : List SetM) W, ls.map (·.x) = ms.map (·.x) → SetsAt B W lv ls → Below w.heap.size w W → Calls Tryz.prog 37 #[lv] W (EpRes ls W)) := Lib.hid fun B lv ls W hl hset hb => by
  have hnm := names_same hl
  refine expansions_any B lv ls n W hset (by rw [len_same hl]; exact hn) ⟨by rw [hnm]; exact hm.dis, by rw [hnm]; exact hm.small, by rw [hnm]; exact hm.some_, fun m hmm => ?_, by rw [len_same hl]; exact hm.few⟩ (hS.below hb)
  have : m.x ∈ ms.map (·.x) := by rw [← hl]; exact List.mem_map_of_mem hmm
  obtain ⟨m2, h2, e⟩ := List.mem_map.1 this
  rw [← e]
  exact hm.right m2 h2
 have HLA := Lib.hid (And.intro h (And.intro hok (And.intro hs (And.intro hm hS.tab))))
 have HN := Lib.hid (And.intro hn hnk)
 clear h hok hs hm hS hn hnk
 go_enter Tryz.func16, Tryz.ntmps16
 go_wp2_with fail
 refine HAL.out.mono ?_
 rintro e w1 ⟨lv, ls, rfl, hl, hset, hb1⟩
 have HL := Lib.hid hl
 have HSE := Lib.hid hset
 have HB1 := Lib.hid hb1
 have hEP := HEP.out _ lv ls w1 hl hset hb1
 obtain ⟨x0, c0, hlv⟩ := hset.form
 rw [len_same hl, HN.out.1] at hlv
 subst hlv
 clear hl hset hb1 HAL HEP
 go_wp2_with fail
 refine hEP.mono ?_
 rintro e w2 ⟨hb2, hres⟩
 clear hEP
 have HB2 := Lib.hid (HB1.out.trans (hb2.mono HB1.out.size))
 have HS2 := Lib.hid (HSE.out.below hb2)
 clear HSE HB1 hb2
 rw [wrong_same HL.out] at hres
 cases hw : wrongE ms with
 | some p =>
  obtain ⟨E, k⟩ := p
  rw [hw] at hres
  simp only at hres
  subst hres
  obtain ⟨hE1, hE2⟩ := wrong_is hw
  have hcl := clone_any (nameAt ls k) w2 (by rw [nameAt_same HL.out]; have := nameAt_size HLA.out.2.2.2.1 k; omega)
  have HNE := Lib.hid (nameAt_same HL.out k)
  have HW := Lib.hid hw
  clear hw
  have hE3 : ¬ E = 0 := by omega
  go_wp2_with fail
  refine hcl.mono ?_
  rintro e w3 ⟨rfl, hb3⟩
  have HB3 := Lib.hid (HB2.out.trans (hb3.mono HB2.out.size))
  go_wp2
  go_ret2
  unfold XpRes
  rw [HW.out]
  exact ⟨by rw [← HNE.out]; rfl, HB3.out⟩
 | none =>
  rw [hw] at hres
  obtain ⟨Kb, k1, Kx, rfl, hv, hx⟩ := hres
  have hw' : wrongE ls = none := by rw [wrong_same HL.out]; exact hw
  have H0 := Lib.hid (XpIn.start HLA.out.1 HLA.out.2.1 HB2.out (ms := ms))
  have HW := Lib.hid hw
  have HV : Hid (∀ W, But X w2 W → VMap W Kb k1 (fK (namesM ms) (fun _ => true) Kx)) := Lib.hid fun W hW => by
   rw [names_same HL.out] at hv
   refine hv.same (hW.2.2.2.2 Kb hv.lt fun e => ?_)
   have hX2 := (HB2.out.block X (heap_ltF HLA.out.1.obj)).trans HLA.out.1.obj
   obtain ⟨D, ⟨es, clock, h1, _⟩, _⟩ := hv
   rw [e, hX2] at h1
   cases h1
  have HX : Hid (∀ i, i < n → Kx i = (Ex ms i, false)) := Lib.hid fun i hi => by
   rw [← Ex_same HL.out]
   exact hx i (by rw [len_same HL.out, HN.out.1]; exact hi)
  have HC : Hid (∀ W, But X w2 W → ∀ q (hq : q < ls.length), ∃ b c, Value.slice x0 n c0 = .slice (some ⟨b, 0, none⟩) ls.length c ∧ b < W.heap.size ∧ ∀ j, j < 6 → W.cell? ⟨b, q * 6 + j, none⟩ = (sCells ls[q])[j]?) := Lib.hid fun W hW q hq => by
   obtain ⟨b, c, e, hl, hcs⟩ := HS2.out.cells hq
   refine ⟨b, c, e, Nat.lt_of_lt_of_le hl hW.2.2.2.1, fun j hj => ?_⟩
   rw [hW.cell (p := ⟨b, q * 6 + j, none⟩) hl fun e => ?_]
   ·exact hcs j hj
   ·have e : b = X := e
    subst e
    have hX2 := (HB2.out.block b (heap_ltF HLA.out.1.obj)).trans HLA.out.1.obj
    have h0 := hcs 0 (by decide)
    rw [cell_of_row w2 b (q * 6 + 0) _ _ _ hX2] at h0
    unfold sCells at h0
    rcases Nat.eq_zero_or_pos q with rfl | hq0
    ·simp at h0
    ·obtain ⟨q, rfl⟩ : ∃ q', q = q' + 1 := ⟨q - 1, by omega⟩
     rw [show (q + 1) * 6 + 0 = q * 6 + 4 + 2 by omega] at h0
     simp at h0
  clear hw hw' hv hx HS2
  go_wp2
  go_loopw [28] (fun i wr => ∃ q : Nat, i = .int .i64 q ∧ q ≤ n ∧ Hid (XpIn F w.heap.size w2 wr X dx dc ks ms q)) (fun i _ => n - (intOf i).toNat)
  case atStart => exact ⟨0, rfl, by omega, H0⟩
  case round =>
   clear H0
   obtain ⟨q, rfl, hq, HI⟩ := hrel
   by_cases hlt : q < n
   ·have q1 : (0 : Int) ≤ q := by omega
    have q2 : (q : Int) < n := by omega
    have hql : q < ls.length := by rw [len_same HL.out, HN.out.1]; exact hlt
    have hqm : q < ms.length := by rw [HN.out.1]; exact hlt
    obtain ⟨b, c, hbe, _, hcs⟩ := HC.out wr HI.out.but q hql
    injection hbe with hbe hx1 hx2
    clear hx1 hx2
    have e0 := hcs 0 (by decide)
    have e1 := hcs 1 (by decide)
    have e2 := hcs 2 (by decide)
    have e3 := hcs 3 (by decide)
    have e4 := hcs 4 (by decide)
    have e5 := hcs 5 (by decide)
    rw [Nat.add_zero] at e0
    have hmx : ls[q].x = ms[q].x := map_at HL.out q hql hqm
    have hnn : q < (namesM ms).length := by unfold namesM; rw [List.length_map]; exact hqm
    have hnm : (namesM ms)[q] = ms[q].x.name := by simp [namesM]
    have HZ1 : Hid (ms[q].x.name.size ≤ 32) := Lib.hid (by rw [← hnm]; exact HLA.out.2.2.2.1.small _ (List.getElem_mem hnn))
    have HRT : Hid (rightV ms[q].x.val = true) := Lib.hid (HLA.out.2.2.2.1.right _ (List.getElem_mem hqm))
    have HFK : Hid (fK (namesM ms) (fun _ => true) Kx ms[q].x.name.data.toList = some (exV (Ex ms q, false))) := Lib.hid (by
     unfold fK
     rw [← hnm, pl_self HLA.out.2.2.2.1.dis hnn]
     simp [HX.out q hlt])
    have HMQ := Lib.hid hmx
    generalize hlq : ls[q] = m at *
    obtain ⟨⟨nm, ⟨kd, it, tx, ws⟩, fr⟩, a, mc⟩ := m
    simp only [sCells, List.getElem?_cons_zero, List.getElem?_cons_succ] at e0 e1 e2 e3 e4 e5
    rw [← hmx] at HZ1 HRT HFK
    simp only at HZ1 HRT HFK
    subst hbe
    have HBA := Lib.hid (HI.out.after (below_one wr (Obj.cells #[.string nm, .int .i64 kd, .int .i64 it, .string tx, .slice a ws.length mc, .int .i64 fr] 50)))
    have HVA := Lib.hid (HV.out _ HBA.out.but)
    clear hcs hlq hmx hnm hnn
    have hg2 : (fK (namesM ms) (fun _ => true) Kx nm.data.toList).getD (exV ([], false)) = .agg #[.string (mkB (Ex ms q)), .bool false] := by rw [HFK.out]; rfl
    have hnz : nm.size ≤ maxLen := by have := HZ1.out; unfold maxLen; omega
    have hft := fun W => field_txt W (mkB (Ex ms q)) false
    have HT : Hid (∀ W, XpIn F w.heap.size w2 W X dx dc ks ms q → Tab W) := Lib.hid fun W hW => (HLA.out.2.2.2.2.below HB2.out).but ((HB2.out.block X (heap_ltF HLA.out.1.obj)).trans HLA.out.1.obj) hW.but
    have HPUT : Hid (kd = 5 → ∀ W, XpIn F w.heap.size w2 W X dx dc ks ms q → Calls Tryz.prog 22 #[.pointer (some ⟨X, 0, none⟩), .string nm, .agg #[.int .i64 5, .int .i64 0, .string (mkB (Ex ms q)), .slice none 0 0], .int .i64 fr] W fun e w' => (∃ v, e = .returned v) ∧ XpIn F w.heap.size w2 w' X dx dc ks ms (q + 1)) := Lib.hid fun h5 W hW => by
     have e1 := HMQ.out
     have e2 : ms[q].x.name = nm := by rw [← e1]
     have e3 : ms[q].x.from_ = fr := by rw [← e1]
     have := xp_put hW HW.out HLA.out.2.2.2.1 HLA.out.2.1 HLA.out.2.2.1 hqm (by rw [← e1]; exact h5) (HT.out W hW)
     rw [e2, e3] at this
     exact this
    have HNX : Hid ((kd = 5 → mkB (Ex ms q) = tx) → ∀ W, XpIn F w.heap.size w2 W X dx dc ks ms q → XpIn F w.heap.size w2 W X dx dc ks ms (q + 1)) := Lib.hid fun h W hW => by
     refine hW.next hqm ?_
     rw [← HMQ.out]
     exact expS_still HRT.out h
    clear hft
    obtain ⟨et, het⟩ : ∃ t, mkB (Ex ms q) = t := ⟨_, rfl⟩
    rw [het] at hg2 HPUT HNX
    have hft := fun W => field_txt W et false
    clear HRT HFK HT
    by_cases h5 : kd = 5
    ·by_cases ht : et = tx
     ·have HI2 := Lib.hid (HNX.out (fun _ => ht) _ HBA.out)
      subst h5 ht
      clear HNX HPUT HI HV HX HC HBA
      go_wp2_with (at_lookup; refine wpList_look_v rfl _ _ 89 93 rfl Tryz.underlying89 _ (zeroX _) rfl _ rfl HVA.out hnz _ hg2 ?_)
      go_roundw
      case rel => exact ⟨q + 1, by go_num, by omega, HI2⟩
      case measure => simp [intOf]; omega
     ·have hte : (et.toList == tx.toList) = false := by
       rw [Lib.toList_data, Lib.toList_data]
       refine beq_eq_false_iff_ne.2 fun h => ht ?_
       rw [← mkB_self et, h, mkB_self]
      have HP2 := HPUT.out h5 _ HBA.out
      subst h5
      clear HNX HPUT HI HV HX HC HBA
      go_wp2_with (at_lookup; refine wpList_look_v rfl _ _ 89 93 rfl Tryz.underlying89 _ (zeroX _) rfl _ rfl HVA.out hnz _ hg2 ?_)
      refine HP2.mono ?_
      rintro e w5 ⟨⟨v5, rfl⟩, hi5⟩
      have HI2 := Lib.hid hi5
      clear hi5 HVA
      go_wp2
      go_roundw
      case rel => exact ⟨q + 1, by go_num, by omega, HI2⟩
      case measure => simp [intOf]; omega
    ·have HI2 := Lib.hid (HNX.out (fun h => absurd h h5) _ HBA.out)
     have h5d : decide (kd = 5) = false := decide_eq_false h5
     clear HNX HPUT HI HV HX HC HBA
     go_wp2_with (at_lookup; refine wpList_look_v rfl _ _ 89 93 rfl Tryz.underlying89 _ (zeroX _) rfl _ rfl HVA.out hnz _ hg2 ?_)
     go_roundw
     case rel => exact ⟨q + 1, by go_num, by omega, HI2⟩
     case measure => simp [intOf]; omega
   ·obtain rfl : q = n := by omega
    have q2 : ¬ (q : Int) < q := by omega
    have HE : Hid (XpRes F w X dx dc ks ms (.returned (.tuple #[.int .i64 0, .string ⟨#[]⟩])) wr) := Lib.hid (by
     obtain ⟨h1, _, F', hx', hc', ns, hF, h2, h3, h4, h5⟩ := HI.out
     unfold XpRes
     rw [HW.out]
     refine ⟨rfl, ?_, F', hx', hc', ns, hF, h2, h3, h4, fun j a b => ?_⟩
     ·exact (But.of_below HB2.out).trans_ h1
     ·rw [h5 j a b, if_pos (by rw [← HN.out.1]; exact b)])
    clear HI HC HV HX HW HL HB2
    go_wp2
    go_ret2
    exact HE.out
end Go.Proofs.YtopghlnoklajkaaGreatDoor

namespace Go.Proofs.YtopghlnoklajkaaGreatDoor

def noD (s : List UInt8) : Bool := s.all fun c => c != 36
theorem noD_iff (s : List UInt8) : noD s = true ↔ ∀ c ∈ s, c ≠ 36 := by unfold noD; rw [List.all_eq_true]; simp
theorem noD_append (a b : List UInt8) : noD (a ++ b) = (noD a && noD b) := by unfold noD; exact List.all_append ..
theorem digits_noD (n : Nat) : noD (Lib.decDigits n) = true := by
 rw [noD_iff]
 intro c hc e
 have := List.all_eq_true.1 (digits_all n) c hc
 unfold isD at this
 subst e
 revert this
 decide
theorem itoa_noD (n : Int) : noD (Lib.itoa n) = true := by
 unfold Lib.itoa
 split
 ·rw [noD_iff]
  intro c hc
  rcases List.mem_cons.1 hc with rfl | hc
  ·decide
  ·exact (noD_iff _).1 (digits_noD _) c hc
 ·exact digits_noD _
theorem unit_noD (k n : Int) : noD (unitFor k n).2 = true := by
 unfold unitFor
 repeat' split
 all_goals decide
theorem join_noD (v : List ByteArray) (h : allWords (wl v) = true) : noD (joinW v) = true := by
 unfold joinW
 have key : ∀ l : List (List UInt8), allWords l = true → ∀ w ∈ l, noD w = true := fun l hl w hw => by
  have h1 := List.all_eq_true.1 hl w hw
  unfold wordB allWord at h1
  simp only [Bool.and_eq_true] at h1
  rw [noD_iff]
  intro c hc e
  have h2 := List.all_eq_true.1 h1.2 c hc
  subst e
  revert h2
  decide
 generalize wl v = l at h
 have k := key l h
 clear key h
 cases l with
 | nil => rfl
 | cons a r =>
  rw [Lib.join_cons, noD_append, k a (List.mem_cons_self ..), Bool.true_and]
  have k2 : ∀ w ∈ r, noD w = true := fun w hw => k w (List.mem_cons_of_mem _ hw)
  clear k
  induction r with
  | nil => rfl
  | cons b r ih =>
   have e : Lib.joinTail [44] (b :: r) = ([44] ++ b) ++ Lib.joinTail [44] r := rfl
   rw [e, noD_append, noD_append, k2 b (List.mem_cons_self ..), ih fun w hw => k2 w (List.mem_cons_of_mem _ hw)]
   decide
theorem print_noD {v : Val} (h : rightV v = true) (h5 : v.kind ≠ 5) : noD (printV v) = true := by
 obtain ⟨k, n, t, ws⟩ := v
 unfold rightV at h
 unfold printV
 simp only at h h5 ⊢
 split at h
 ·rename_i hk; rw [if_pos hk]; split <;> decide
 ·rename_i h1
  rw [if_neg h1]
  split at h
  ·rename_i hk; rw [if_pos hk]; exact itoa_noD _
  ·rename_i h2
   rw [if_neg h2]
   split at h
   ·rename_i hk
    rw [if_pos hk, noD_append, itoa_noD, unit_noD]; rfl
   ·rename_i h3
    rw [if_neg h3, if_neg h5]
    split at h
    ·simp only [Bool.and_eq_true, decide_eq_true_eq, wordsRight] at h
     exact join_noD _ h.2.1.2
    ·cases h
theorem scanB_noD : ∀ (r b : List UInt8) (l : List PcB), noD r = true → scanB r b l = some (l ++ [(b ++ r, false)]) := by
 intro r
 induction r with
 | nil => intro b l _; rw [scanB_nil, List.append_nil]
 | cons c r ih =>
  intro b l h
  rw [noD_iff] at h
  rw [scanB_byte (h c (List.mem_cons_self ..)), ih _ _ ((noD_iff _).2 fun d hd => h d (List.mem_cons_of_mem _ hd))]
  simp
theorem pieces_noD {s : List UInt8} (h : noD s = true) : piecesB s = some [(s, false)] := by unfold piecesB; rw [scanB_noD s [] [] h]; rfl
section
variable {ms ms' : List SetM}
end
end Go.Proofs.YtopghlnoklajkaaGreatDoor

namespace Go.Proofs.YtopghlnoklajkaaGreatDoor
open Go.ChangeShapes Go.WideShapes Go.ChangeAt Go.RowKit

theorem aw1 : namesB (ByteArray.mk #[104, 116, 116, 112, 58, 47, 47, 36, 123, 110, 101, 116, 46, 104, 111, 115, 116, 125, 58, 36, 123, 110, 101, 116, 46, 112, 111, 114, 116, 125, 47, 36, 36, 36, 123, 110, 101, 116, 46, 104, 111, 115, 116, 125]).data.toList = ([[110, 101, 116, 46, 104, 111, 115, 116], [110, 101, 116, 46, 112, 111, 114, 116]], 0) := by kernel_rfl
theorem aw2 : namesB (ByteArray.mk #[36, 120]).data.toList = ([], 100) := by kernel_rfl
theorem aw3 : placeN (stdL.map (·.name)) ⟨#[110, 101, 116, 46, 117, 114, 108]⟩ = 11 := by kernel_rfl
theorem std_map {ms : List SetM} (h : ms.map (·.x) = stdL.map dfltS) : ms.map (·.x) = stdM.map (·.x) := by
 rw [h]; unfold stdM; rw [List.map_map]; rfl
theorem std_got {F0 : Nat → Prop} {w w' : World} {X dc : Nat} {dx : Option Addr} {ms : List SetM} {e : Ending} (hm : ms.map (·.x) = stdL.map dfltS) (hx : XpRes F0 w X dx dc stdL ms e w') :
  e = .returned (.tuple #[.int .i64 0, .string ⟨#[]⟩]) ∧ But X w w' ∧ Calls Tryz.prog 25 #[.pointer (some ⟨X, 0, none⟩), .string ⟨#[110, 101, 116, 46, 117, 114, 108]⟩] w' fun e w2 => ∃ y d, e = .returned (.tuple #[.agg #[.string ⟨#[110, 101, 116, 46, 117, 114, 108]⟩, .int .i64 5, .int .i64 0, .string ⟨#[104, 116, 116, 112, 58, 47, 47, 108, 111, 99, 97, 108, 104, 111, 115, 116, 58, 56, 48, 56, 48]⟩, .slice y 0 d, .int .i64 0], .bool true]) ∧ Below w'.heap.size w' w2 := by
 have hs := std_map hm
 unfold XpRes at hx
 rw [wrong_same hs, sx_right] at hx
 obtain ⟨he, hb, F, h1, c1, ms', _, hat, hok, hlen, hxs⟩ := hx
 refine ⟨he, hb, ?_⟩
 have hl : ms.length = 16 := by rw [len_same hs]; exact sx_len
 have hks : stdL.length = 16 := by rw [← hok.len, hlen, hl]
 have hMs := made_ms sx_good hok
 have hn : namesM ms' = stdL.map (·.name) := by
  unfold namesM
  refine List.ext_getElem (by simp [hok.len]) fun j a b => ?_
  rw [List.getElem_map, List.getElem_map]
  exact hok.names j (by simpa using a) (by simpa using b)
 refine (lget_any F X w' dx h1 dc c1 stdL ms' hat hok sx_good.sorted hMs.dis hMs.few ⟨#[110, 101, 116, 46, 117, 114, 108]⟩).mono ?_
 rintro e2 w2 ⟨hb2, ⟨hp, _⟩ | ⟨j, hj, hp, y, d, rfl, _⟩⟩
 ·rw [hn, aw3] at hp; cases hp
 ·rw [hn, aw3] at hp
  obtain rfl : j = 11 := by omega
  have hj2 : 11 < ms.length := by omega
  have hk : 11 < stdL.length := by omega
  have e1 : ms[11].x = dfltS stdL[11] := map_at hm 11 hj2 hk
  have e2 : ms'[11].x = ⟨⟨#[110, 101, 116, 46, 117, 114, 108]⟩, ⟨5, 0, ⟨#[104, 116, 116, 112, 58, 47, 47, 108, 111, 99, 97, 108, 104, 111, 115, 116, 58, 56, 48, 56, 48]⟩, []⟩, 0⟩ := by
   rw [hxs 11 hj hj2, e1]
   unfold expS
   rw [if_pos (by kernel_rfl), Ex_same hs, sx_url]
   kernel_rfl
  rw [e2]
  exact ⟨y, d, rfl, hb2⟩
set_option maxHeartbeats 6400000 in
set_option maxRecDepth 100000 in
theorem rawake_any (w : World) (hS : Std w) :
  Calls Tryz.prog 8 #[] w fun e w' => e = .returned (.bool true) ∧ Below w.heap.size w w' := by
 have HN1 : Hid (Calls Tryz.prog 9 #[.string (ByteArray.mk #[104, 116, 116, 112, 58, 47, 47, 36, 123, 110, 101, 116, 46, 104, 111, 115, 116, 125, 58, 36, 123, 110, 101, 116, 46, 112, 111, 114, 116, 125, 47, 36, 36, 36, 123, 110, 101, 116, 46, 104, 111, 115, 116, 125])] w (NmRes w ([[110, 101, 116, 46, 104, 111, 115, 116], [110, 101, 116, 46, 112, 111, 114, 116]], 0))) := Lib.hid (by
  have := rnames_any (ByteArray.mk #[104, 116, 116, 112, 58, 47, 47, 36, 123, 110, 101, 116, 46, 104, 111, 115, 116, 125, 58, 36, 123, 110, 101, 116, 46, 112, 111, 114, 116, 125, 47, 36, 36, 36, 123, 110, 101, 116, 46, 104, 111, 115, 116, 125]) w (by decide) hS.maxI hS.tab
  rw [aw1] at this
  exact this)
 have HN2 : Hid (∀ W, Below w.heap.size w W → Calls Tryz.prog 9 #[.string (ByteArray.mk #[36, 120])] W (NmRes W ([], 100))) := Lib.hid fun W hb => by
  have := rnames_any (ByteArray.mk #[36, 120]) W (by decide) (hS.below hb).maxI (hS.below hb).tab
  rw [aw2] at this
  exact this
 have HST : Hid (∀ W, Below w.heap.size w W → Calls Tryz.prog 24 #[] W fun e w' => ∃ S, e = .returned (.pointer (some ⟨S, 0, none⟩)) ∧ SetIn W w' S stdL) := Lib.hid fun W hb => standard_any W (hS.below hb).tab (hS.below hb).units (hS.below hb).maxI
 have HMG : Hid (∀ S sx sc W, SetAt W S sx sc stdL → Below w.heap.size w W → Calls Tryz.prog 23 #[.pointer (some ⟨S, 0, none⟩), .slice none 0 0, .slice none 0 0] W (MgRes stdL W)) := Lib.hid fun S sx sc W h hb => lmerge_any stdL S sx sc W h sx_good (hS.below hb).tab (hS.below hb).units (hS.below hb).maxI
 have HSB : Hid (∀ W, Below w.heap.size w W → Std W) := Lib.hid fun W hb => hS.below hb
 clear hS
 go_enter Tryz.func8, Tryz.ntmps8
 go_wp2_with fail
 refine HN1.out.mono ?_
 rintro e w1 ⟨v1, rfl, ho1, hb1⟩
 obtain ⟨x1, c1, rfl⟩ := own_form ho1
 have HO1 := Lib.hid ho1
 have HB1 := Lib.hid hb1
 have hN2 := HN2.out w1 hb1
 clear ho1 hb1 HN1 HN2
 go_wp2_with fail
 refine hN2.mono ?_
 rintro e w2 ⟨v2, rfl, _, hb2⟩
 have HB2 := Lib.hid (HB1.out.trans (hb2.mono HB1.out.size))
 have HO2 := Lib.hid (rowBelow HO1.out hb2)
 have hST := HST.out w2 HB2.out
 clear hb2 hN2 HO1 HB1 HST
 go_wp2_with fail
 refine hST.mono ?_
 rintro e w3 ⟨S, rfl, hset⟩
 obtain ⟨⟨sx, sc, hs3⟩, hb3, _, _, _⟩ := hset
 have HB3 := Lib.hid (HB2.out.trans (hb3.mono HB2.out.size))
 have HO3 := Lib.hid (rowBelow HO2.out hb3)
 have hMG := HMG.out S sx sc w3 hs3 HB3.out
 clear hb3 hs3 hST HO2 HB2 HMG
 go_wp2_with fail
 refine hMG.mono ?_
 rintro e w4 ⟨dx, dc, hx, hc, ms, rfl, hat, hok, hms, hb4⟩
 have HB4 := Lib.hid (HB3.out.trans (hb4.mono HB3.out.size))
 have HO4 := Lib.hid (rowBelow HO3.out hb4)
 have hXP := expand_any _ _ w4 dx hx dc hc stdL ms 16 hat hok sx_good.sorted (by rw [len_same (std_map hms)]; exact sx_len) (made_ms sx_good hok) (HSB.out w4 HB4.out)
 have HMS := Lib.hid hms
 have HOB := Lib.hid hat.obj
 clear hat hok hms hb4 hMG
 go_wp2_with fail
 refine hXP.mono ?_
 rintro e w5 hx5
 obtain ⟨rfl, hb5, hget⟩ := std_got HMS.out hx5
 have hg5 : w4.grownBy w5 (some w3.heap.size) := ⟨hb5.1, hb5.2.1, hb5.2.2.1, hb5.2.2.2.1, fun k hk hne => hb5.2.2.2.2 k hk (fun e => hne (by rw [e]))⟩
 have HO5 := Lib.hid (HO4.out.kept hg5 (.inr (own_ne HO4.out HOB.out (by decide))))
 have HB5 : Hid (Below w.heap.size w w5) := Lib.hid (HB4.out.grown hg5 HB4.out.size (fun k hk => by injection hk with hk; have := HB3.out.size; omega))
 clear hx5 hb5 hg5 hXP HO4 HB4 HOB HMS HO3
 go_wp2_with fail
 refine hget.mono ?_
 rintro e w6 ⟨y, d, rfl, hb6⟩
 have HO6 : Hid (∀ o, (w6.alloc o).ownsRow w.heap.size 9 1 (.slice x1 2 c1) 2 [nmS [110, 101, 116, 46, 104, 111, 115, 116], nmS [110, 101, 116, 46, 112, 111, 114, 116]]) := Lib.hid fun o => rowBelow (rowBelow HO5.out hb6) (below_one w6 o)
 have HB6 : Hid (∀ o, Below w.heap.size w (w6.alloc o)) := Lib.hid fun o => (HB5.out.trans (hb6.mono HB5.out.size)).trans ((below_one w6 o).mono (HB5.out.trans (hb6.mono HB5.out.size)).size)
 have HX6 : Hid (∀ o, Calls Tryz.prog 16 #[.pointer none] (w6.alloc o) fun e w' => e = .returned (.tuple #[.int .i64 1, .string ⟨#[]⟩]) ∧ w6.alloc o = w') := Lib.hid fun o => expand_none _
 clear hb6 HO5 HB5 hget
 go_wp2_with fail
 refine (HX6.out _).mono ?_
 rintro e w7 ⟨rfl, rfl⟩
 have HROW : ∃ g, x1 = some ⟨g, 0, none⟩ := by
  rcases (HO6.out (Obj.cells #[.string ⟨#[110, 101, 116, 46, 117, 114, 108]⟩, .int .i64 5, .int .i64 0, .string ⟨#[104, 116, 116, 112, 58, 47, 47, 108, 111, 99, 97, 108, 104, 111, 115, 116, 58, 56, 48, 56, 48]⟩, .slice y 0 d, .int .i64 0] 50)).2 with ⟨_, h⟩ | ⟨g, cap, cur, h1, _⟩
  ·cases h
  ·injection h1 with h1 _ _
   exact ⟨g, h1⟩
 obtain ⟨g, rfl⟩ := HROW
 have g0 := (HO6.out (Obj.cells #[.string ⟨#[110, 101, 116, 46, 117, 114, 108]⟩, .int .i64 5, .int .i64 0, .string ⟨#[104, 116, 116, 112, 58, 47, 47, 108, 111, 99, 97, 108, 104, 111, 115, 116, 58, 56, 48, 56, 48]⟩, .slice y 0 d, .int .i64 0] 50)).cellAt 0 (by decide)
 have g1 := (HO6.out (Obj.cells #[.string ⟨#[110, 101, 116, 46, 117, 114, 108]⟩, .int .i64 5, .int .i64 0, .string ⟨#[104, 116, 116, 112, 58, 47, 47, 108, 111, 99, 97, 108, 104, 111, 115, 116, 58, 56, 48, 56, 48]⟩, .slice y 0 d, .int .i64 0] 50)).cellAt 1 (by decide)
 replace g0 : (w6.alloc (Obj.cells #[.string ⟨#[110, 101, 116, 46, 117, 114, 108]⟩, .int .i64 5, .int .i64 0, .string ⟨#[104, 116, 116, 112, 58, 47, 47, 108, 111, 99, 97, 108, 104, 111, 115, 116, 58, 56, 48, 56, 48]⟩, .slice y 0 d, .int .i64 0] 50)).cell? ⟨g, 0, none⟩ = some (.string ⟨#[110, 101, 116, 46, 104, 111, 115, 116]⟩) := g0
 replace g1 : (w6.alloc (Obj.cells #[.string ⟨#[110, 101, 116, 46, 117, 114, 108]⟩, .int .i64 5, .int .i64 0, .string ⟨#[104, 116, 116, 112, 58, 47, 47, 108, 111, 99, 97, 108, 104, 111, 115, 116, 58, 56, 48, 56, 48]⟩, .slice y 0 d, .int .i64 0] 50)).cell? ⟨g, 1, none⟩ = some (.string ⟨#[110, 101, 116, 46, 112, 111, 114, 116]⟩) := g1
 have HBF := Lib.hid (HB6.out (Obj.cells #[.string ⟨#[110, 101, 116, 46, 117, 114, 108]⟩, .int .i64 5, .int .i64 0, .string ⟨#[104, 116, 116, 112, 58, 47, 47, 108, 111, 99, 97, 108, 104, 111, 115, 116, 58, 56, 48, 56, 48]⟩, .slice y 0 d, .int .i64 0] 50))
 clear HO6 HB6 HX6
 go_wp2
 go_ret
 exact ⟨rfl, HBF.out⟩
end Go.Proofs.YtopghlnoklajkaaGreatDoor

namespace Go.Proofs.YtopghlnoklajkaaGreatDoor
open Go.ChangeShapes Go.WideShapes Go.ChangeAt Go.RowKit

def addJ (n m : Int) : Int := if m > 2147483647 - n then 2147483648 else n + m
theorem addJ_in {n m : Int} (h0 : 0 ≤ n) (h1 : 0 ≤ m) : 0 ≤ addJ n m ∧ addJ n m ≤ 2147483648 := by unfold addJ; split <;> omega
theorem addJ_cap {n m : Int} : addJ n m = min (n + m) 2147483648 := by unfold addJ; split <;> omega
set_option maxRecDepth 100000 in
theorem radd_any (n m : Int) (w : World) (h0 : 0 ≤ n) (h1 : n ≤ 9223372036854775807) (h2 : 0 ≤ m) (h3 : m ≤ 9223372036854775807) :
  Calls Tryz.prog 7 #[.int .i64 n, .int .i64 m] w fun e w' => e = .returned (.int .i64 (addJ n m)) ∧ w = w' := by
 have hw : IntKind.i64.wrap (2147483647 - n) = 2147483647 - n := IntWalk.i64_in _ (by omega)
 by_cases h : m > 2147483647 - n
 ·have q : 2147483647 - n < m := h
  rw [show addJ n m = 2147483648 by unfold addJ; rw [if_pos h]]
  clear h
  go_enter Tryz.func7, Tryz.ntmps7
  go_wp2
  go_ret
  exact ⟨rfl, rfl⟩
 ·have q : ¬ 2147483647 - n < m := h
  have hw2 : IntKind.i64.wrap (n + m) = n + m := IntWalk.i64_in _ (by omega)
  rw [show addJ n m = n + m by unfold addJ; rw [if_neg h]]
  clear h
  go_enter Tryz.func7, Tryz.ntmps7
  go_wp2
  go_ret
  exact ⟨rfl, rfl⟩
def pickJ (c n : Int) : Int := (if c < 0 then -(c + 1) else c).tmod n
theorem pickJ_in {c n : Int} (h : 0 < n) : 0 ≤ pickJ c n ∧ pickJ c n < n := by
 unfold pickJ
 have h0 : 0 ≤ (if c < 0 then -(c + 1) else c) := by split <;> omega
 exact ⟨Int.tmod_nonneg _ h0, Int.tmod_lt_of_pos _ h⟩
set_option maxRecDepth 100000 in
theorem rpick_any (c n : Int) (w : World) (hn : 0 < n) (hn2 : n ≤ 9223372036854775807) (hc : -9223372036854775808 ≤ c) (hc2 : c ≤ 9223372036854775807) :
  Calls Tryz.prog 21 #[.int .i64 c, .int .i64 n] w fun e w' => e = .returned (.int .i64 (pickJ c n)) ∧ w = w' := by
 have hn0 : ¬ n = 0 := by omega
 have hd0 : (n == 0) = false := by simpa using hn0
 by_cases h : c < 0
 ·have h1 : IntKind.i64.wrap (c + 1) = c + 1 := IntWalk.i64_in _ (by omega)
  have h2 : IntKind.i64.wrap (-(c + 1)) = -(c + 1) := IntWalk.i64_in _ (by omega)
  have h3 : IntKind.i64.wrap ((-(c + 1)).tmod n) = (-(c + 1)).tmod n := IntWalk.i64_in _ (by
   have := Int.tmod_nonneg n (show 0 ≤ -(c + 1) by omega)
   have := Int.tmod_lt_of_pos (-(c + 1)) hn
   omega)
  rw [show pickJ c n = (-(c + 1)).tmod n by unfold pickJ; rw [if_pos h]]
  go_enter Tryz.func21, Tryz.ntmps21
  go_wp2
  go_ret
  exact ⟨by first | rfl | simp_all, rfl⟩
 ·have h3 : IntKind.i64.wrap (c.tmod n) = c.tmod n := IntWalk.i64_in _ (by
   have := Int.tmod_nonneg n (show 0 ≤ c by omega)
   have := Int.tmod_lt_of_pos c hn
   omega)
  rw [show pickJ c n = c.tmod n by unfold pickJ; rw [if_neg h]]
  go_enter Tryz.func21, Tryz.ntmps21
  go_wp2
  go_ret
  exact ⟨by first | rfl | (simp_all; rw [Int.tmod_eq_emod_of_nonneg (by omega)]), rfl⟩

set_option maxHeartbeats 1600000 in
set_option maxRecDepth 100000 in
theorem rtexts_any (ts : List ByteArray) (x y : Option Addr) (c d : Nat) (w : World) (ha : TxAt w x ts) (hb : TxAt w y ts) (hn : ts.length ≤ 4611686018427387904) :
  Calls Tryz.prog 11 #[.slice x ts.length c, .slice y ts.length d] w fun e w' => e = .returned (.bool true) ∧ Below w.heap.size w w' := by
 have HA := Lib.hid ha
 have HB := Lib.hid hb
 obtain ⟨n, hn'⟩ : ∃ n, ts.length = n := ⟨_, rfl⟩
 have HN := Lib.hid hn'
 rw [hn'] at hn ⊢
 clear ha hb hn'
 go_enter Tryz.func11, Tryz.ntmps11
 go_wp2
 go_loopw [5] (fun i wr => ∃ t : Nat, i = .int .i64 t ∧ t ≤ n ∧ Hid (Below w.heap.size w wr)) (fun i _ => n - (intOf i).toNat)
 case atStart => exact ⟨0, rfl, by omega, Lib.hid (Below.refl _ _)⟩
 case round =>
  obtain ⟨t, rfl, ht, HK⟩ := hrel
  by_cases hlt : t < n
  ·have htx : t < ts.length := by rw [HN.out]; exact hlt
   obtain ⟨a', oa, ea, hal, a0⟩ := (HA.out.below HK.out) t htx
   obtain ⟨b', ob, eb, hbl, b0⟩ := (HB.out.below HK.out) t htx
   subst ea eb
   generalize ts[t] = k at a0 b0
   have q1 : (0 : Int) ≤ t := by omega
   have q2 : (t : Int) < n := by omega
   have HD := Lib.hid (HK.out.trans ((below_drewN wr 1).mono HK.out.size))
   clear htx
   go_wp2
   go_region
   all_goals
    go_wp2
    go_roundw
    case rel => exact ⟨t + 1, by go_num, by omega, HD⟩
    case measure => simp [intOf]; omega
  ·have q2 : ¬ (t : Int) < n := by omega
   go_wp2
   go_ret
   exact ⟨rfl, HK.out⟩
end Go.Proofs.YtopghlnoklajkaaGreatDoor
