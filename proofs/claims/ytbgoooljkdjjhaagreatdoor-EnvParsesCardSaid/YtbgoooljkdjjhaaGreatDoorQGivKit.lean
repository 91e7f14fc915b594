/-
  KeyFinds, GivKit.
-/
import Derived.Test.YtbgoooljkdjjhaaGreatDoorQKeySet
import Derived.Lib.SliceRun
import Derived.Deep.AppendLies
import Derived.Deep.RegionLaw
namespace Go.Proofs.YtbgoooljkdjjhaaGreatDoor
open Go.ChangeShapes Go.WideShapes Go.ChangeAt Go.RowKit

theorem std_small : ∀ l ∈ [netL, logL, sbL], l.length ≤ 1000 ∧ ∀ k ∈ l, Small k := by
  have h : ([netL, logL, sbL].all fun l => decide (l.length ≤ 1000) && l.all fun k => decide (k.name.size ≤ 4294967280) && (decide (k.dflt.size ≤ 4294967280) && decide (k.letter.size ≤ 4294967280))) = true := by kernel_rfl
  intro l hl
  have h1 := List.all_eq_true.1 h l hl
  simp only [Bool.and_eq_true, decide_eq_true_eq] at h1
  refine ⟨h1.1, fun k hk => ?_⟩
  have h2 := List.all_eq_true.1 h1.2 k hk
  simp only [Bool.and_eq_true, decide_eq_true_eq] at h2
  exact h2
set_option maxHeartbeats 1600000 in
set_option maxRecDepth 100000 in
theorem standard_any (w : World) (hT : Tab w) (hU : Units w) (hM : MaxI w) : Calls Tryz.prog 29 #[] w fun e w' => ∃ S, e = .returned (.pointer (some ⟨S, 0, none⟩)) ∧ SetIn w w' S stdL := by
  have HT : Hid (∀ w3, Below w.heap.size w w3 → ∀ L c, ListsAt w3 L [netL, logL, sbL] → Calls Tryz.prog 50 #[.slice (some ⟨L, 0, none⟩) 3 c] w3 fun e w' => ∃ S, e = .returned (.pointer (some ⟨S, 0, none⟩)) ∧ SetIn w3 w' S stdL) := Lib.hid fun w3 hb L c hl => by
    have h := together_any [netL, logL, sbL] L c w3 hl (by decide) std_small (hT.below hb) (hU.below hb) (hM.below hb)
    rw [show [netL, logL, sbL].flatten = netL ++ logL ++ sbL by simp, std_fold] at h
    exact h
  clear hT hU hM
  go_enter Tryz.func29, Tryz.ntmps29
  go_wp2_with fail
  refine (netKeys_any _).mono ?_
  rintro e w1 ⟨g1, rfl, hk1, hn1, hb1⟩
  rw [show netL.length = 5 from rfl]
  go_wp2_with fail
  refine (logKeys_any _).mono ?_
  rintro e w2 ⟨g2, rfl, hk2, hn2, hb2⟩
  rw [show logL.length = 3 from rfl]
  go_wp2_with fail
  refine (storeAndBootKeys_any _).mono ?_
  rintro e w3 ⟨g3, rfl, hk3, hn3, hb3⟩
  rw [show sbL.length = 8 from rfl]
  have HB3 : Hid (Below w.heap.size w w3) := Lib.hid ((hb1.trans (hb2.mono hb1.size)).trans (hb3.mono (Nat.le_trans hb1.size hb2.size)))
  have HL : Hid (∀ t, ListsAt (w3.alloc (Obj.cells #[.slice (some ⟨g1, 0, none⟩) 5 5, .slice (some ⟨g2, 0, none⟩) 3 3, .slice (some ⟨g3, 0, none⟩) 8 8] t)) w3.heap.size [netL, logL, sbL]) := Lib.hid fun t => by
    refine ⟨by simp, fun i hi => ?_⟩
    have h3 : i = 0 ∨ i = 1 ∨ i = 2 := by simp at hi; omega
    rcases h3 with rfl | rfl | rfl
    · exact ⟨some ⟨g1, 0, none⟩, 5, by simp; rfl, ((hk1.below hb2).below hb3).below (below_one _ _)⟩
    · exact ⟨some ⟨g2, 0, none⟩, 3, by simp; rfl, (hk2.below hb3).below (below_one _ _)⟩
    · exact ⟨some ⟨g3, 0, none⟩, 8, by simp; rfl, hk3.below (below_one _ _)⟩
  clear hk1 hn1 hb1 hk2 hn2 hb2 hk3 hn3 hb3
  go_wp2_with fail
  refine (HT.out _ (HB3.out.trans ((below_one w3 _).mono HB3.out.size)) _ _ (HL.out _)).mono ?_
  rintro e w4 ⟨S, rfl, hs⟩
  have HE : Hid (SetIn w w4 S stdL) := Lib.hid (by
    have hb0 := HB3.out.trans ((below_one w3 (Obj.cells #[.slice (some ⟨g1, 0, none⟩) 5 5, .slice (some ⟨g2, 0, none⟩) 3 3, .slice (some ⟨g3, 0, none⟩) 8 8] 22)).mono HB3.out.size)
    exact ⟨hs.set, HB3.out.trans (((below_one w3 _).mono HB3.out.size).trans (hs.below.mono hb0.size)), Nat.le_trans hb0.size hs.new, hs.sorted, hs.len⟩)
  clear hs
  go_wp2
  go_ret
  exact ⟨S, rfl, HE.out⟩

/-- The definition of a name. -/
def findK (xs : List KeyV) (nm : ByteArray) : Option KeyV := xs.find? fun k => decide (k.name = nm)
theorem find_drop {xs : List KeyV} {nm : ByteArray} {t : Nat} (h : t < xs.length) : findK (xs.drop t) nm = if decide (xs[t].name = nm) then some xs[t] else findK (xs.drop (t + 1)) nm := by
  unfold findK
  rw [List.drop_eq_getElem_cons h, List.find?_cons]
  cases decide (xs[t].name = nm) <;> rfl
theorem find_yes {xs : List KeyV} {nm : ByteArray} {i : Nat} (h : PlaceIs xs nm i) (hi : i < xs.length) (h0 : cmpAt xs nm i = 0) : findK xs nm = some xs[i] := by
  unfold findK
  rw [List.find?_eq_some_iff_getElem]
  rw [cmpAt_of hi] at h0
  refine ⟨by simpa using cmpB_eq h0, i, hi, rfl, fun j hj => ?_⟩
  have h1 := h.2.1 j hj
  rw [cmpAt_of (Nat.lt_trans hj hi)] at h1
  have : ¬ xs[j].name = nm := fun e => by rw [e, cmpB_refl] at h1; omega
  simpa using this
theorem find_no {xs : List KeyV} {nm : ByteArray} (h : hasK xs nm = false) : findK xs nm = none := by
  unfold findK
  rw [List.find?_eq_none]
  intro x hx
  have := List.any_eq_false.1 h x hx
  exact this

set_option maxHeartbeats 1600000 in
set_option maxRecDepth 100000 in
theorem find_any (xs : List KeyV) (nm : ByteArray) (S : Nat) (x : Option Addr) (c : Nat) (w : World) (h : SetAt w S x c xs) (hs : Sorted xs) (hn : xs.length ≤ 1000000) :
    Calls Tryz.prog 37 #[.pointer (some ⟨S, 0, none⟩), .string nm] w fun e w' => e = .returned (oAgg (findK xs nm)) ∧ Below w.heap.size w w' := by
  have HS := Lib.hid h
  have HP : Hid (∀ o, Calls Tryz.prog 56 #[.pointer (some ⟨S, 0, none⟩), .string nm] (w.alloc o) (FoundRes xs nm (w.alloc o))) := Lib.hid fun o => place_any xs nm S x c _ (h.below (below_one w o)) (hs.mono _) hn
  have HZ : Hid (∀ t, Box6 (w.alloc (Obj.cells #[.string ⟨#[]⟩, .int .i64 0, .string ⟨#[]⟩, .int .i64 0, .int .i64 0, .string ⟨#[]⟩] t)) w.heap.size kZero ∧ Below w.heap.size w (w.alloc (Obj.cells #[.string ⟨#[]⟩, .int .i64 0, .string ⟨#[]⟩, .int .i64 0, .int .i64 0, .string ⟨#[]⟩] t))) := Lib.hid fun t => ⟨box6_new w kZero t, below_one w _⟩
  obtain ⟨r, hr⟩ : ∃ r, findK xs nm = r := ⟨_, rfl⟩
  have HR := Lib.hid hr
  rw [hr]
  clear h hr
  go_enter Tryz.func37, Tryz.ntmps37
  go_wp2_with fail
  refine (HP.out _).mono ?_
  rintro e w1 ⟨i, hpi, rfl, hb1⟩
  have HB1 := Lib.hid ((HZ.out _).2.trans (hb1.mono (HZ.out _).2.size))
  have HX1 := Lib.hid ((HZ.out _).1.below hb1)
  have HPI := Lib.hid hpi
  have HFF := Lib.hid (found_is hs hpi)
  have HS1 := Lib.hid (HS.out.below HB1.out)
  clear hb1 HZ HP
  by_cases hf : i < xs.length ∧ cmpAt xs nm i = 0
  · obtain ⟨hi, h0⟩ := hf
    have HR2 : Hid (r = some xs[i]) := Lib.hid (HR.out.symm.trans (find_yes HPI.out hi h0))
    rw [show (decide (i < xs.length) && decide (cmpAt xs nm i = 0)) = true by rw [decide_eq_true hi, decide_eq_true h0]; rfl]
    obtain ⟨b, hxe, hbl, c0, c1, c2, c3, c4, c5⟩ := HS1.out.keys i hi
    have hcell := HS1.out.cell
    generalize xs[i] = k at c0 c1 c2 c3 c4 c5 HR2
    obtain ⟨kn, kk, kd, kl, km, kt⟩ := k
    simp only at c0 c1 c2 c3 c4 c5
    have q1 : (0 : Int) ≤ i := by omega
    have q2 : (i : Int) < xs.length := by omega
    subst hxe
    have HS6 : Hid (Box6 (set6 w1 w.heap.size ⟨kn, kk, kd, kl, km, kt⟩) w.heap.size ⟨kn, kk, kd, kl, km, kt⟩ ∧ Below w.heap.size w (set6 w1 w.heap.size ⟨kn, kk, kd, kl, km, kt⟩)) := Lib.hid ⟨HX1.out.set6 _, below_set6 HB1.out (Nat.le_refl _) _⟩
    obtain ⟨b0, b1, b2, b3, b4, b5, bf⟩ := HX1.out
    have f0 := bf 0 (by decide)
    have f1 := bf 1 (by decide)
    have f2 := bf 2 (by decide)
    have f3 := bf 3 (by decide)
    have f4 := bf 4 (by decide)
    have f5 := bf 5 (by decide)
    obtain ⟨g0, g1, g2, g3, g4, g5, _⟩ := HS6.out.1
    have HF := Lib.hid HS6.out.2
    unfold kZero at b0 b1 b2 b3 b4 b5
    unfold set6 at g0 g1 g2 g3 g4 g5 HF
    simp only at b0 b1 b2 b3 b4 b5 g0 g1 g2 g3 g4 g5 HF
    clear bf HS6 h0
    go_wp2
    exact bodyPost_ret (v := .tuple #[.agg #[.string kn, .int .i64 kk, .string kd, .int .i64 kl, .int .i64 km, .string kt], .bool true]) (by simp [results, Tryz.results37, go_sem, g0, g1, g2, g3, g4, g5]) rfl ⟨ret_val (by rw [HR2.out]; rfl), HF.out⟩
  · have hF : (decide (i < xs.length) && decide (cmpAt xs nm i = 0)) = false := by
      rw [Bool.and_eq_false_iff]
      by_cases h1 : i < xs.length
      · exact Or.inr (decide_eq_false (fun h2 => hf ⟨h1, h2⟩))
      · exact Or.inl (decide_eq_false h1)
    have HR2 : Hid (r = none) := Lib.hid (HR.out.symm.trans (find_no (HFF.out.symm.trans hF)))
    rw [hF]
    clear hf hF HFF
    have HS6 : Hid (Box6 (set6 w1 w.heap.size kZero) w.heap.size kZero ∧ Below w.heap.size w (set6 w1 w.heap.size kZero)) := Lib.hid ⟨HX1.out.set6 _, below_set6 HB1.out (Nat.le_refl _) _⟩
    obtain ⟨b0, b1, b2, b3, b4, b5, bf⟩ := HX1.out
    have f0 := bf 0 (by decide)
    have f1 := bf 1 (by decide)
    have f2 := bf 2 (by decide)
    have f3 := bf 3 (by decide)
    have f4 := bf 4 (by decide)
    have f5 := bf 5 (by decide)
    obtain ⟨g0, g1, g2, g3, g4, g5, _⟩ := HS6.out.1
    have HF := Lib.hid HS6.out.2
    unfold kZero at b0 b1 b2 b3 b4 b5
    unfold set6 kZero at g0 g1 g2 g3 g4 g5 HF
    simp only at b0 b1 b2 b3 b4 b5 g0 g1 g2 g3 g4 g5 HF
    clear bf HS6
    go_wp2
    exact bodyPost_ret (v := .tuple #[.agg #[.string ⟨#[]⟩, .int .i64 0, .string ⟨#[]⟩, .int .i64 0, .int .i64 0, .string ⟨#[]⟩], .bool false]) (by simp [results, Tryz.results37, go_sem, g0, g1, g2, g3, g4, g5]) rfl ⟨ret_val (by rw [HR2.out]; rfl), HF.out⟩

set_option maxHeartbeats 1600000 in
set_option maxRecDepth 100000 in
theorem clone6_any (xs : List KeyV) (b c : Nat) (w : World) (hx : Keys w (some ⟨b, 0, none⟩) xs) (h0 : 0 < xs.length) (hn : xs.length ≤ 1000000) :
    Calls Tryz.prog 49 #[.slice (some ⟨b, 0, none⟩) xs.length c] w (InsRes w xs) := by
  have hg : ∀ t, ∃ c' cur, (∀ ty, (Builtin.append_ #[22, 22] ty #[.slice (some ⟨w.heap.size, 0, none⟩) 0 0, .slice (some ⟨b, 0, none⟩) xs.length c]).run Tryz.prog (w.alloc (Obj.cells #[] t)) = .ok (.slice (some ⟨w.heap.size + 1, 0, none⟩) xs.length c') ((w.alloc (Obj.cells #[] t)).drew.alloc (.cells cur 57))) ∧ InsRes w xs (.returned (.slice (some ⟨w.heap.size + 1, 0, none⟩) xs.length c')) ((w.alloc (Obj.cells #[] t)).drew.alloc (.cells cur 57)) := fun t => by
    have hb := below_one w (Obj.cells #[] t)
    obtain ⟨c', cur, hr, h1, _, h3⟩ := grow_run (w.alloc (Obj.cells #[] t)) w.heap.size 0 0 [] rfl (fun j v hv => by simp at hv) b 0 xs.length c (flat xs) (flat_len xs) (fun j v hv => by rw [Nat.zero_add]; exact (hx.below hb).flat j v hv) 0 (by omega) (by omega)
    rw [Nat.zero_add] at hr h1
    have hsz : (w.alloc (Obj.cells #[] t)).heap.size = w.heap.size + 1 := by simp
    rw [hsz] at hr
    refine ⟨c', cur, hr, _, c', rfl, Nat.le_succ _, h1, ?_, hb.trans ((below_drew_alloc _ _).mono hb.size)⟩
    rw [← hsz]
    exact Keys.of_block (t := 57) (fr := (0, 0)) (heap_alloc_new (w.alloc (Obj.cells #[] t)).drew _) h3
  obtain ⟨c', cur, hr, hE⟩ := hg 57
  have HR := Lib.hid hr
  have HE := Lib.hid hE
  clear hr hE hx hg
  generalize xs.length = n at *
  have hq : ∀ (w : World) (a : Option Addr) (n c n' c' : Nat), (binOp .eql 22 (.slice a n c) (.slice none n' c')).run Tryz.prog w = .ok (.bool a.isNone) w := fun w a n c n' c' => Lib.run_eql_slice_nil w _ _ a n c n' c' Tryz.underlying22
  go_enter Tryz.func49, Tryz.ntmps49
  go_wp2_with (at_builtin; refine wpList_append_eq rfl _ _ _ _ rfl _ _ _ rfl rfl (HR.out _) ?_)
  go_ret
  exact HE.out
set_option maxRecDepth 100000 in
theorem all_any (xs : List KeyV) (S : Nat) (x : Option Addr) (c : Nat) (w : World) (h : SetAt w S x c xs) (h0 : 0 < xs.length) (hn : xs.length ≤ 1000000) :
    Calls Tryz.prog 28 #[.pointer (some ⟨S, 0, none⟩)] w (InsRes w xs) := by
  have hc := h.cell
  obtain ⟨b, hxe, _⟩ := h.keys 0 h0
  subst hxe
  have HC := Lib.hid (clone6_any xs b c w h.keys h0 hn)
  clear h
  go_enter Tryz.func28, Tryz.ntmps28
  go_wp2_with fail
  refine HC.out.mono ?_
  rintro e w' ⟨g, c', rfl, h1, h2, h3, h4⟩
  have HE : Hid (InsRes w xs (.returned (.slice (some ⟨g, 0, none⟩) xs.length c')) w') := Lib.hid ⟨g, c', rfl, h1, h2, h3, h4⟩
  clear h1 h2 h3 h4 HC
  go_wp2
  go_ret
  exact HE.out
end Go.Proofs.YtbgoooljkdjjhaaGreatDoor

namespace Go.Proofs.YtbgoooljkdjjhaaGreatDoor
open Go.ChangeShapes Go.WideShapes Go.ChangeAt Go.RowKit

/-- A setting that is given. -/
structure GivV where
  name : ByteArray
  text : ByteArray
  at_ : Int
instance : Inhabited GivV := ⟨⟨⟨#[]⟩, ⟨#[]⟩, 0⟩⟩
def gCells (g : GivV) : List Value := [.string g.name, .string g.text, .int .i64 g.at_]
/-- A list of settings in memory. -/
def Givs (w : World) (x : Option Addr) (gs : List GivV) : Prop :=
  ∀ k (h : k < gs.length), ∃ b off, x = some ⟨b, off, none⟩ ∧ b < w.heap.size ∧ w.cell? ⟨b, off + k * 3, none⟩ = some (.string gs[k].name) ∧ w.cell? ⟨b, off + k * 3 + 1, none⟩ = some (.string gs[k].text) ∧ w.cell? ⟨b, off + k * 3 + 2, none⟩ = some (.int .i64 gs[k].at_)
theorem Givs.below {w w' : World} {x : Option Addr} {gs : List GivV} (h : Givs w x gs) (hb : Below w.heap.size w w') : Givs w' x gs := fun k hk => by
  obtain ⟨b, off, e, hl, c0, c1, c2⟩ := h k hk
  exact ⟨b, off, e, Nat.lt_of_lt_of_le hl hb.size, by rw [hb.cell (p := ⟨b, off + k * 3, none⟩) hl]; exact c0, by rw [hb.cell (p := ⟨b, off + k * 3 + 1, none⟩) hl]; exact c1, by rw [hb.cell (p := ⟨b, off + k * 3 + 2, none⟩) hl]; exact c2⟩
theorem infoTx : (Tryz.prog.info? 9).map (fun i => (i.zero, i.size, i.bytes)) = some (some (.string ByteArray.empty), 1, 16) := by kernel_rfl
/-- A list of texts of a call's own. -/
structure OwnX (w0 w : World) (v : Value) (ts : List ByteArray) : Prop where
  own : w.ownsRow w0.heap.size 9 1 v ts.length (ts.map Value.string)
  below : Below w0.heap.size w0 w
theorem OwnX.nil_ (w : World) : OwnX w w (.slice none 0 0) [] := ⟨World.ownsRow_nil _ _ _ _, Below.refl _ _⟩
theorem OwnX.after {w0 w w' : World} {v : Value} {ts : List ByteArray} (h : OwnX w0 w v ts) (hb : Below w.heap.size w w') : OwnX w0 w' v ts :=
  ⟨h.own.kept (row := none) ⟨hb.os, hb.tape, hb.output, hb.size, fun k hk _ => hb.block k hk⟩ (by cases hv : v.ownBlock <;> simp), h.below.trans (hb.mono h.below.size)⟩
theorem own_form {w : World} {B : Nat} {e : TypeId} {size n : Nat} {v : Value} {xs : List Value} (h : w.ownsRow B e size v n xs) : ∃ x c, v = .slice x n c := by
  rcases h.2 with ⟨h1, h2⟩ | ⟨g, cap, cur, h1, _⟩
  · exact ⟨none, 0, by rw [h1, h2]⟩
  · exact ⟨_, _, h1⟩
/-- A text goes to a list of texts. -/
theorem appendX {ops : Array Oper} {rest : List Oper} {o : Oper} {a : Act} {Q : Exit → Act → World → Prop} (hgd : o.guard = none) (s x : Operand)
    (ho : o.op = .call { callee := .builtin .append, args := #[s, x], argTypes := #[33, 33] }) {w0 w : World} {v : Value} {t : ByteArray} {ts : List ByteArray} (hown : OwnX w0 w v ts) (hn : ts.length ≤ 10000000000) (hs : a.eval s = v)
    {c g : Nat} (hx : a.eval x = .slice (some ⟨g, 0, none⟩) 1 c) (hg : g = w.heap.size)
    (h : ∀ y cap w', OwnX w0 w' (.slice (some ⟨y, 0, none⟩) (ts.length + 1) cap) (ts ++ [t]) → wpList Tryz.prog ops Q rest (a.put o.dst (.slice (some ⟨y, 0, none⟩) (ts.length + 1) cap)) w') :
    wpList Tryz.prog ops Q (o :: rest) a (w.alloc (Obj.cells #[.string t] 9)) := by
  subst hg
  obtain ⟨i0, hi, hz0, hz1, hz2⟩ := info_parts infoTx
  have hz := hown.below.size
  refine wpList_append_lies _ hgd s x _ ho w0.heap.size 9 i0 _ 1 16 Tryz.underlying33 hi hz0 hz1 hz2 rfl (by decide) v ts.length (ts.map Value.string) hs (hown.own.alloc _) ⟨w.heap.size, 0, none⟩ 1 c [.string t] hx rfl (World.news_of_block (heap_alloc_new w _)) ?_ (by decide) (by unfold maxLen; omega) (by omega) (by have := (below_one w (Obj.cells #[.string t] 9)).size; omega) _ rfl ?_
  · intro u' hu'
    rw [List.mem_singleton.1 hu']; rfl
  · intro y cap w1 h1 h2 _ _
    exact h y cap w1 ⟨by simpa using h1, (hown.below.alloc hz _).grown h2 (by simp; omega) (fun k hk => (hown.own.lt k hk).1)⟩
/-- The same as one step of a region that draws its order. -/
theorem stepX {ops : Array Oper} {o : Oper} {a : Act} {K : Act → World → Prop} {Q : Exit → Act → World → Prop} {E : Prop} (hgd : o.guard = none) (s x : Operand)
    (ho : o.op = .call { callee := .builtin .append, args := #[s, x], argTypes := #[33, 33] }) {w0 w W : World} {v : Value} {t : ByteArray} {ts : List ByteArray} (hown : OwnX w0 w v ts) (hW : W = (w.alloc (Obj.cells #[.string t] 9)).drew) (hn : ts.length ≤ 10000000000) (hs : a.eval s = v)
    {c g : Nat} (hx : a.eval x = .slice (some ⟨g, 0, none⟩) 1 c) (hg : g = w.heap.size)
    (h : ∀ y cap w', OwnX w0 w' (.slice (some ⟨y, 0, none⟩) (ts.length + 1) cap) (ts ++ [t]) → K (a.put o.dst (.slice (some ⟨y, 0, none⟩) (ts.length + 1) cap)) w') :
    if Region.wanted o (yielded ops a.tmps) = true then Oper.wp Tryz.prog o a W K Q else E := by
  subst hg hW
  obtain ⟨i0, hi, hz0, hz1, hz2⟩ := info_parts infoTx
  have hz := hown.below.size
  refine step_append_lies _ hgd s x _ ho w0.heap.size 9 i0 _ 1 16 Tryz.underlying33 hi hz0 hz1 hz2 rfl (by decide) v ts.length (ts.map Value.string) hs ((hown.own.alloc _).drew) ⟨w.heap.size, 0, none⟩ 1 c [.string t] hx rfl (World.news_of_block (heap_alloc_new w _)) ?_ (by decide) (by unfold maxLen; omega) (by omega) (by have := (below_one w (Obj.cells #[.string t] 9)).size; show w0.heap.size ≤ (w.alloc (Obj.cells #[.string t] 9)).heap.size; omega) _ rfl ?_
  · intro u' hu'
    rw [List.mem_singleton.1 hu']; rfl
  · intro y cap w1 h1 h2 _ _
    exact h y cap w1 ⟨by simpa using h1, ((hown.below.alloc hz _).drew).grown h2 (by show w0.heap.size ≤ (w.alloc (Obj.cells #[.string t] 9)).heap.size; simp; omega) (fun k hk => (hown.own.lt k hk).1)⟩
def gFlat (gs : List GivV) : List Value := gs.flatMap gCells
theorem gFlat_len (gs : List GivV) : (gFlat gs).length = gs.length * 3 := by
  unfold gFlat
  induction gs with
  | nil => rfl
  | cons g r ih => rw [List.flatMap_cons, List.length_append, ih]; simp [gCells]; omega
theorem own_ne {w : World} {B q size n : Nat} {e t : TypeId} {v : Value} {xs : List Value} {a : Array Value} {fr : Nat × Nat} (h : w.ownsRow B e size v n xs) (hq : w.heap[q]? = some (Obj.cells a t fr)) (hne : t ≠ e) : v.ownBlock ≠ some q := by
  intro hv
  rcases h.2 with ⟨h1, _⟩ | ⟨g, cap, cur, h1, _, hg, _⟩
  · rw [h1] at hv; cases hv
  · rw [h1] at hv
    have : g = q := by injection hv
    subst this
    rw [hq] at hg
    injection hg with hg
    injection hg with _ h2 _
    exact hne h2
theorem heap_ltF {w : World} {q : Nat} {o : Obj} (h : w.heap[q]? = some o) : q < w.heap.size := (Array.getElem?_eq_some_iff.1 h).1
theorem infoGv : (Tryz.prog.info? 27).map (fun i => (i.zero, i.size, i.bytes)) = some (some (.agg #[.string ByteArray.empty, .string ByteArray.empty, .int .i64 0]), 3, 40) := by kernel_rfl
/-- An append of one setting, as a step of a region that draws its order. -/
theorem stepG {ops : Array Oper} {o : Oper} {a : Act} {W : World} {K : Act → World → Prop} {Q : Exit → Act → World → Prop} {E : Prop} (hgd : o.guard = none) (sl x : Operand)
    (ho : o.op = .call { callee := .builtin .append, args := #[sl, x], argTypes := #[23, 23] }) {B n : Nat} {v : Value} {vs : List Value} (hown : W.ownsRow B 27 3 v n vs) (hB : B ≤ W.heap.size) (hn : n ≤ 10000000000) (t : GivV) (hs : a.eval sl = v)
    {g c : Nat} (hx : a.eval x = .slice (some ⟨g, 0, none⟩) 1 c) (hk : W.cell? ⟨g, 0, none⟩ = some (.string t.name) ∧ W.cell? ⟨g, 1, none⟩ = some (.string t.text) ∧ W.cell? ⟨g, 2, none⟩ = some (.int .i64 t.at_))
    (h : ∀ g2 cap W2, W2.ownsRow B 27 3 (.slice (some ⟨g2, 0, none⟩) (n + 1) cap) (n + 1) (vs ++ gCells t) → W.grownBy W2 v.ownBlock → K (a.put o.dst (.slice (some ⟨g2, 0, none⟩) (n + 1) cap)) W2) :
    if Region.wanted o (yielded ops a.tmps) = true then Oper.wp Tryz.prog o a W K Q else E := by
  obtain ⟨i0, hi, hz0, hz1, hz2⟩ := info_parts infoGv
  refine step_append_lies _ hgd sl x _ ho B 27 i0 _ 3 40 Tryz.underlying23 hi hz0 hz1 hz2 rfl (by decide) v n vs hs hown ⟨g, 0, none⟩ 1 c (gCells t) hx rfl (fun j u hu => ?_) ?_ (by decide) (by unfold maxLen; omega) (by omega) hB _ rfl ?_
  · have hj : j < 3 := (List.getElem?_eq_some_iff.1 hu).1
    have h3 : j = 0 ∨ j = 1 ∨ j = 2 := by omega
    obtain ⟨k0, k1, k2⟩ := hk
    rw [add_at, Nat.zero_add]
    rcases h3 with rfl | rfl | rfl
    · rw [← Option.some.inj hu]; exact k0
    · rw [← Option.some.inj hu]; exact k1
    · rw [← Option.some.inj hu]; exact k2
  · intro u hu
    unfold gCells at hu
    simp only [List.mem_cons, List.not_mem_nil, or_false] at hu
    rcases hu with rfl | rfl | rfl <;> rfl
  · intro g2 cap W2 h1 h2 _ _
    exact h g2 cap W2 h1 h2
/-- A list of texts in memory. -/
def TxAt (w : World) (x : Option Addr) (ts : List ByteArray) : Prop := ∀ k (h : k < ts.length), ∃ b off, x = some ⟨b, off, none⟩ ∧ b < w.heap.size ∧ w.cell? ⟨b, off + k, none⟩ = some (.string ts[k])
theorem TxAt.below {w w' : World} {x : Option Addr} {ts : List ByteArray} (h : TxAt w x ts) (hb : Below w.heap.size w w') : TxAt w' x ts := fun k hk => by
  obtain ⟨b, off, e, hl, hc⟩ := h k hk
  exact ⟨b, off, e, Nat.lt_of_lt_of_le hl hb.size, by rw [hb.cell (p := ⟨b, off + k, none⟩) hl]; exact hc⟩
theorem OwnX.texts {w0 w : World} {v : Value} {ts : List ByteArray} (h : OwnX w0 w v ts) : ∃ x c, v = .slice x ts.length c ∧ TxAt w x ts := by
  rcases h.own.2 with ⟨h1, h2⟩ | ⟨g, cap, cur, h1, _, hg, _⟩
  · refine ⟨none, 0, by rw [h1, h2], fun k hk => ?_⟩
    omega
  · refine ⟨_, _, h1, fun k hk => ⟨g, 0, rfl, (Array.getElem?_eq_some_iff.1 hg).1, ?_⟩⟩
    have hv := h.own
    rw [h1] at hv
    rw [Nat.zero_add, hv.cellAt k (by omega), List.getElem?_map, List.getElem?_eq_getElem hk]; rfl
/-- Definitions that came in, anywhere in a block. -/
def KeysAt (w : World) (x : Option Addr) (xs : List KeyV) : Prop :=
  ∀ i (h : i < xs.length), ∃ b off, x = some ⟨b, off, none⟩ ∧ b < w.heap.size ∧ w.cell? ⟨b, off + i * 6, none⟩ = some (.string xs[i].name) ∧ w.cell? ⟨b, off + i * 6 + 1, none⟩ = some (.int .i64 xs[i].kind) ∧ w.cell? ⟨b, off + i * 6 + 2, none⟩ = some (.string xs[i].dflt) ∧
    w.cell? ⟨b, off + i * 6 + 3, none⟩ = some (.int .i64 xs[i].least) ∧ w.cell? ⟨b, off + i * 6 + 4, none⟩ = some (.int .i64 xs[i].most) ∧ w.cell? ⟨b, off + i * 6 + 5, none⟩ = some (.string xs[i].letter)
theorem KeysAt.below {w w' : World} {x : Option Addr} {xs : List KeyV} (h : KeysAt w x xs) (hb : Below w.heap.size w w') : KeysAt w' x xs := fun i hi => by
  obtain ⟨b, off, e, hl, c0, c1, c2, c3, c4, c5⟩ := h i hi
  exact ⟨b, off, e, Nat.lt_of_lt_of_le hl hb.size, by rw [hb.cell (p := ⟨b, _, none⟩) hl]; exact c0, by rw [hb.cell (p := ⟨b, _, none⟩) hl]; exact c1, by rw [hb.cell (p := ⟨b, _, none⟩) hl]; exact c2, by rw [hb.cell (p := ⟨b, _, none⟩) hl]; exact c3, by rw [hb.cell (p := ⟨b, _, none⟩) hl]; exact c4, by rw [hb.cell (p := ⟨b, _, none⟩) hl]; exact c5⟩
end Go.Proofs.YtbgoooljkdjjhaaGreatDoor
