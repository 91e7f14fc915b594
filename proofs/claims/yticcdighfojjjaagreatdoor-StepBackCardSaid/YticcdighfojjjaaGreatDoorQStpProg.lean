/-
  StpNam, StpProg.
-/
import Derived.Test.YticcdighfojjjaaGreatDoorQStpCal
import Derived.Deep.WholeRow
import Derived.Deep.AppendLies
import Derived.Test.YticcdighfojjjaaGreatDoorQStpCln
import Derived.Test.YticcdighfojjjaaGreatDoorQStpRgt
import Derived.Test.YticcdighfojjjaaGreatDoorQStpRef7
import Derived.Shelf.SlSortCmp.NoneTotal
namespace Go.Proofs.YticcdighfojjjaaGreatDoor
open Go.ChangeShapes Go.WideShapes Go.ChangeAt Go.RowKit

/-- The names that stand. -/
def NamesW (w : World) : Prop := ∃ tt fr, w.heap[0]? = some (.cells funcCells tt fr)
theorem NamesW.below {w w' : World} (h : NamesW w) (hb : Below w.heap.size w w') : NamesW w' := by
  obtain ⟨tt, fr, h⟩ := h
  exact ⟨tt, fr, by rw [hb.block _ (Array.getElem?_eq_some_iff.1 h).1]; exact h⟩
theorem infoStrN : (Tryz.prog.info? 9).map (fun i => (i.zero, i.size, i.bytes)) = some (some (.string ⟨#[]⟩), 1, 16) := by kernel_rfl
theorem appendN {ops : Array Oper} {rest : List Oper} {o : Oper} {a : Act} {Q : Exit → Act → World → Prop} (hgd : o.guard = none) (s x : Operand)
    (ho : o.op = .call { callee := .builtin .append, args := #[s, x], argTypes := #[23, 23] }) {B : Nat} {w : World} {v : Value} {n : Nat} {xs : List Value} (hown : w.ownsRow B 9 1 v n xs) (hB : B ≤ w.heap.size) (hn : n ≤ 10000000) (hs : a.eval s = v)
    {t : ByteArray} {c g : Nat} (hx : a.eval x = .slice (some ⟨g, 0, none⟩) 1 c) (hg : g = w.heap.size)
    (h : ∀ k cap w', w'.ownsRow B 9 1 (.slice (some ⟨k, 0, none⟩) (n + 1) cap) (n + 1) (xs ++ [.string t]) → (w.alloc (Obj.cells #[.string t] 9)).grownBy w' v.ownBlock → wpList Tryz.prog ops Q rest (a.put o.dst (.slice (some ⟨k, 0, none⟩) (n + 1) cap)) w') :
    wpList Tryz.prog ops Q (o :: rest) a (w.alloc (Obj.cells #[.string t] 9)) := by
  subst hg
  obtain ⟨i0, hi, hz0, hz1, hz2⟩ := info_parts infoStrN
  refine wpList_append_lies _ hgd s x _ ho B 9 i0 _ 1 16 Tryz.underlying23 hi hz0 hz1 hz2 rfl (by decide) v n xs hs (hown.alloc _) ⟨w.heap.size, 0, none⟩ 1 c [.string t] hx rfl (World.news_of_block (heap_alloc_new w _)) ?_ (by decide) (by unfold maxLen; omega) (by omega) (Nat.le_trans hB (by simp)) _ rfl ?_
  · intro u' hu'
    rw [List.mem_singleton.1 hu']; rfl
  · intro y cap w1 h1 h2 _ _
    exact h y cap w1 h1 h2
theorem names_info : (Tryz.prog.info? 53).map (·.size) = some funcCells.size := by kernel_rfl
theorem names_at0 (W : World) : (Instr.index 53 (.agg funcCells) (.int .i64 ((0 : Nat) : Int))).run Tryz.prog W = .ok (.string (funcsB[0]'(by decide))) W := by kernel_rfl
theorem names_at1 (W : World) : (Instr.index 53 (.agg funcCells) (.int .i64 ((1 : Nat) : Int))).run Tryz.prog W = .ok (.string (funcsB[1]'(by decide))) W := by kernel_rfl
theorem names_at2 (W : World) : (Instr.index 53 (.agg funcCells) (.int .i64 ((2 : Nat) : Int))).run Tryz.prog W = .ok (.string (funcsB[2]'(by decide))) W := by kernel_rfl
theorem names_at3 (W : World) : (Instr.index 53 (.agg funcCells) (.int .i64 ((3 : Nat) : Int))).run Tryz.prog W = .ok (.string (funcsB[3]'(by decide))) W := by kernel_rfl
theorem names_at4 (W : World) : (Instr.index 53 (.agg funcCells) (.int .i64 ((4 : Nat) : Int))).run Tryz.prog W = .ok (.string (funcsB[4]'(by decide))) W := by kernel_rfl
theorem names_at (k : Nat) (h : k < 5) (W : World) : (Instr.index 53 (.agg funcCells) (.int .i64 (k : Int))).run Tryz.prog W = .ok (.string (funcsB[k]'h)) W := by
  match k, h with
  | 0, _ => exact names_at0 W
  | 1, _ => exact names_at1 W
  | 2, _ => exact names_at2 W
  | 3, _ => exact names_at3 W
  | 4, _ => exact names_at4 W
set_option maxHeartbeats 800000 in
set_option maxRecDepth 100000 in
/-- A row of texts of a call's own, the five names. -/
theorem pfuncs_any (w : World) (hT : NamesW w) : Calls Tryz.prog 11 #[] w fun e w' => ∃ v, e = .returned v ∧ w'.ownsRow w.heap.size 9 1 v 5 (funcsB.map Value.string) ∧ Below w.heap.size w w' := by
  obtain ⟨tt, fr, hg⟩ := hT
  have HZ := Lib.hid names_info
  have HI := Lib.hid names_at
  obtain ⟨cs, hcs⟩ : ∃ cs, funcCells = cs := ⟨_, rfl⟩
  rw [hcs] at hg HZ HI
  clear hcs
  go_enter Tryz.func11, Tryz.ntmps11
  go_wp2_with (refine wpList_load_row rfl 53 _ rfl 0 rfl tt cs fr _ hg Tryz.underlying53 rfl HZ.out ?_)
  clear hg
  go_loopw [1, 5] (fun v i wr => ∃ t : Nat, i = .int .i64 t ∧ t ≤ 5 ∧ Hid (wr.ownsRow w.heap.size 9 1 v t ((funcsB.take t).map Value.string) ∧ Below w.heap.size w wr)) (fun _ i _ => 5 - (intOf i).toNat)
  case atStart => exact ⟨0, rfl, by omega, Lib.hid ⟨World.ownsRow_nil _ _ _ _, Below.refl _ _⟩⟩
  case round =>
    obtain ⟨t, rfl, ht, HR⟩ := hrel
    by_cases hlt : t < 5
    · have hx := HI.out t hlt wr
      have hlt2 : (t : Int) < 5 := by omega
      have HM : Hid ((funcsB.take (t + 1)).map Value.string = (funcsB.take t).map Value.string ++ [.string (funcsB[t]'hlt)]) := Lib.hid (by
        rw [List.take_succ_eq_append_getElem (show t < funcsB.length from hlt), List.map_append]; rfl)
      generalize funcsB[t]'hlt = N at hx HM
      go_wp2_with (at_builtin; refine appendN rfl _ _ rfl HR.out.1 HR.out.2.size (by omega) rfl rfl rfl ?_; intro y cap w1 h1 h2; have H1 := Lib.hid h1; have H2 := Lib.hid h2; clear h1 h2)
      go_roundw
      case rel => exact ⟨t + 1, by go_num, by omega, Lib.hid ⟨by rw [HM.out]; exact H1.out, (HR.out.2.alloc HR.out.2.size _).grown H2.out (Nat.le_trans HR.out.2.size (by simp)) (fun k hk => (HR.out.1.lt k hk).1)⟩⟩
      case measure => simp [intOf]; omega
    · obtain rfl : t = 5 := by omega
      go_wp2
      go_ret
      exact ⟨_, rfl, HR.out.1, HR.out.2⟩
end Go.Proofs.YticcdighfojjjaaGreatDoor

namespace Go.Proofs.YticcdighfojjjaaGreatDoor
open Go.ChangeShapes Go.WideShapes Go.ChangeAt Go.RowKit

/-! Plainly -/
theorem right_text {s : StepV} (h : rightS s = true) : s.text.size ≤ 200 := by
  have hp := right_parts h
  have h2 := h
  unfold rightS at h2
  rw [Bool.and_eq_true] at h2
  have h3 := h2.2
  rcases right_kind h with k | k | k | k | k
  · exact (hp.2.1 k).2
  · rw [if_neg (by omega), if_pos k] at h3
    simp only [Bool.and_eq_true] at h3
    rw [noneA_iff.1 h3.2.2]; decide
  · rw [if_neg (by omega), if_neg (by omega), if_neg (by omega), if_pos k] at h3
    simp only [Bool.and_eq_true] at h3
    rw [noneA_iff.1 h3.2.2]; decide
  · have hk := hp.2.2.2.2 k
    rcases known_cases hk with e | e | e | e | e <;> rw [e] <;> decide
  · rw [if_neg (by omega), if_neg (by omega), if_pos k] at h3
    simp only [Bool.and_eq_true] at h3
    rw [noneA_iff.1 h3.2.2]; decide
theorem word_small {s : ByteArray} (h : wordA s = true) : s.size ≤ 2147483647 := by
  unfold wordA at h
  have hl := data_len s
  rcases Nat.lt_or_ge 32 s.size with hb | hb
  · rw [wordB_long (.inr (by omega))] at h; cases h
  · omega
theorem okP_small {p : PairV} (h : okP p = true) : p.table.size ≤ 2147483647 ∧ p.key.size ≤ 2147483647 ∧ p.value.size ≤ 2147483647 := by
  obtain ⟨h1, h2, h3⟩ := okP_iff.1 h
  exact ⟨word_small h1, word_small h2, by omega⟩
theorem rise_apart {l : List PairV} (h : Rise l) : l.Pairwise fun p q => ¬ (p.table = q.table ∧ p.key = q.key) := by
  refine List.Pairwise.imp ?_ h
  intro a b hab ⟨e1, e2⟩
  rw [lessP_key (p := a) (q := b) (r := a) e1.symm e2.symm, lessP_irrefl] at hab; cases hab
/-- What is known of a change that is right. -/
theorem chg_known {ps : List PairV} {s : StepV} (hl : pairsB ps = true) (hr : rightS s = true) (h : (chgQ ps s).2 = 0) : (doesP ps s).2 = 0 ∧ (chgQ ps s).1.length = (doesP ps s).1.length ∧ PrsOk (chgQ ps s).1 ∧ ((chgQ ps s).1.Pairwise fun p q => ¬ (p.table = q.table ∧ p.key = q.key)) ∧
    ∀ qs : List PairV, qs.Perm (chgQ ps s).1 → Rise qs → qs = (doesP ps s).1 := by
  obtain ⟨h1, h2⟩ := chg_does (l := ps) hr
  have h0 : (doesP ps s).2 = 0 := by rw [← h1]; exact h
  have hp := h2 h0
  obtain ⟨o1, o2⟩ := does_out hl hr h0
  refine ⟨h0, hp.length_eq, fun p hm => okP_small (o1 p (hp.mem_iff.1 hm)), ?_, fun qs hq hri => perm_rise hri o2 (hq.trans hp)⟩
  exact (hp.pairwise_iff (fun {a b} h ⟨e1, e2⟩ => h ⟨e1.symm, e2.symm⟩)).2 (rise_apart o2)
theorem RowP.less {B B' : Nat} {w : World} {v : Value} {ps : List PairV} (h : RowP B' w v ps) (hB : B ≤ B') : RowP B w v ps := by
  refine ⟨h.1, ?_⟩
  rcases h.2 with h2 | ⟨g, cap, cur, h1, h2, h3⟩
  · exact .inl h2
  · exact .inr ⟨g, cap, cur, h1, Nat.le_trans hB h2, h3⟩
/-! In memory -/
set_option maxHeartbeats 800000 in
set_option maxRecDepth 100000 in
theorem clone_none (a : Addr) (c : Nat) (w : World) : Calls Tryz.prog 39 #[.slice (some a) 0 c] w fun e w' => e = .returned (.slice (some ⟨w.heap.size, 0, none⟩) 0 0) ∧ w' = w.alloc (.cells #[] 51) := by
  obtain ⟨i0, hi, _, _, _⟩ := info_parts infoPr
  have HR : Hid (∀ t ty, (Builtin.append_ #[37, 37] ty #[.slice (some ⟨w.heap.size, 0, none⟩) 0 0, .slice (some a) 0 c]).run Tryz.prog (w.alloc (Obj.cells #[] t)) = .ok (.slice (some ⟨w.heap.size, 0, none⟩) 0 0) (w.alloc (Obj.cells #[] t))) := Lib.hid fun t ty => by
    have hsrc : Src Tryz.prog i0.size 37 (.slice (some a) 0 c) 0 [] (w.alloc (Obj.cells #[] t)) := Src.ofSlice _ Tryz.underlying37 a 0 c [] (by simp) (fun j u h => by simp at h) (fun u h => by cases h)
    have hr := run_append_room_src (w.alloc (Obj.cells #[] t)) 37 37 ty 51 i0 Tryz.underlying37 hi w.heap.size 0 0 0 (.slice (some a) 0 c) 0 [] hsrc (by omega) (fun j h => by simp at h) (fun j h => by simp at h)
    simpa [World.setCells] using hr
  have hq : ∀ (w : World) (a : Option Addr) (n c n' c' : Nat), (binOp .eql 37 (.slice a n c) (.slice none n' c')).run Tryz.prog w = .ok (.bool a.isNone) w := fun w a n c n' c' => Lib.run_eql_slice_nil w _ _ a n c n' c' Tryz.underlying37
  go_enter Tryz.func39, Tryz.ntmps39
  go_wp2_with (at_builtin; refine wpList_append_eq rfl _ _ _ _ rfl _ _ _ rfl rfl (HR.out _) ?_)
  go_ret
  exact ⟨rfl, rfl⟩
theorem clone_any (ps : List PairV) (x : Option Addr) (n c : Nat) (w : World) (h : PrsAt w x ps) (hn : ps.length = n) (hl : n ≤ 1000000) :
    Calls Tryz.prog 39 #[.slice x n c] w fun e w' => ∃ v', e = .returned v' ∧ RowP w.heap.size w' v' ps ∧ Below w.heap.size w w' := by
  subst hn
  by_cases h0 : ps.length = 0
  · obtain rfl := List.eq_nil_of_length_eq_zero h0
    cases x with
    | none => exact (AnyE.slices_Clone_nil Tryz.clonePr 0 c w).mono fun e w' ⟨h1, h2⟩ => ⟨_, h1, by rw [h2]; exact RowP.nil_ _ _, by rw [h2]; exact Below.refl _ _⟩
    | some a => exact (clone_none a c w).mono fun e w' ⟨h1, h2⟩ => ⟨_, h1, by rw [h2]; exact World.ownsRow_made w #[] 0 (Nat.le_refl _) (by decide) rfl, by rw [h2]; exact below_one _ _⟩
  · obtain ⟨b, off, e, _⟩ := h 0 (by omega)
    subst e
    obtain ⟨i0, hi, hz0, hz1, hz2⟩ := info_parts infoPr
    have hc := AnyE.slices_Clone Tryz.clonePr i0 _ 3 48 hi hz0 hz1 hz2 rfl (by decide) (fun w => by kernel_rfl) b off ps.length c (pFlat ps) w (pFlat_len ps) (by unfold maxLen; omega) (by omega) h.cells (pFlat_one ps)
    exact hc.mono fun e w' ⟨v', h1, h2, _, h3⟩ => ⟨v', h1, h2, h3⟩
theorem psort_none (fv : Value) (w : World) : Calls Tryz.prog 41 #[.slice none 0 0, fv] w fun e w' => e = .returned (.tuple #[]) ∧ w' = w := by
  have h := AnyF.slices_SortFunc_none Tryz.sortPr none 0 fv w
  change Calls Tryz.prog 41 _ _ _ at h
  exact h
theorem cloneTexts_none (w : World) : Calls Tryz.prog 40 #[.slice none 0 0] w fun e w' => e = .returned (.tuple #[]) ∧ w' = w := by
  go_enter Tryz.func40, Tryz.ntmps40
  go_wp2
  go_loopw [2, 3, 6] (fun _ _ i wr => i = .int .i64 0 ∧ wr = w) (fun _ _ _ _ => 0)
  case atStart => exact ⟨rfl, rfl⟩
  case round =>
    obtain ⟨rfl, rfl⟩ := hrel
    go_wp2
    go_end0
    exact ⟨rfl, rfl⟩
/-- Texts of their own, and sorted: of a row of a call's own. -/
theorem finish_any (ps : List PairV) (B : Nat) (v : Value) (w : World) (h : RowP B w v ps) (hl : ps.length ≤ 1000000) (hok : PrsOk ps) (ha : ps.Pairwise fun p q => ¬ (p.table = q.table ∧ p.key = q.key)) :
    (Calls Tryz.prog 40 #[v] w fun e w' => e = .returned (.tuple #[]) ∧ RowP B w' v ps ∧ w.grownBy w' v.ownBlock) ∧
      ∀ W, RowP B W v ps → Calls Tryz.prog 41 #[v, .func (.func 42) #[] #[]] W fun e w' => e = .returned (.tuple #[]) ∧ ∃ qs : List PairV, qs.Perm ps ∧ Rise qs ∧ RowP B w' v qs ∧ W.grownBy w' v.ownBlock := by
  rcases h.shape with ⟨rfl, rfl⟩ | ⟨g, cap, rfl, _, _, _⟩
  · exact ⟨(cloneTexts_none w).mono fun e w' ⟨h1, h2⟩ => ⟨h1, by rw [h2]; exact RowP.nil_ _ _, by rw [h2]; exact grown_refl _ _⟩, fun W _ => (psort_none _ W).mono fun e w' ⟨h1, h2⟩ => ⟨h1, [], List.Perm.refl _, List.Pairwise.nil, by rw [h2]; exact RowP.nil_ _ _, by rw [h2]; exact grown_refl _ _⟩⟩
  · refine ⟨cloneTexts_any ps B g ps.length cap w h rfl hl hok, fun W hW => (sortP_any W B g ps.length cap ps rfl hW ha (by omega)).mono fun e w' ⟨h1, qs, h2, h3, h4, h5⟩ => ⟨h1, qs, h2, h3, ?_, h5⟩⟩
    unfold RowP
    rw [h2.length_eq]; exact h4
/-- Nothing that stood when Apply had laid its step has turned. -/
def KB (w : World) (s : StepV) (W : World) : Prop := Below (w.alloc (sO s)).heap.size (w.alloc (sO s)) W
section
variable {w W W' : World} {s : StepV}
theorem KB.next (h : KB w s W) (hb : Below W.heap.size W W') : KB w s W' := Below.trans h (hb.mono (Below.size h))
theorem KB.drew (h : KB w s W) : KB w s W.drew := Below.drew h
theorem KB.base (h : KB w s W) : Below w.heap.size w W := (below_one w (sO s)).trans (Below.mono h (below_one w (sO s)).size)
theorem KB.cells (h : KB w s W) : W.cell? ⟨w.heap.size, 0, none⟩ = some (.int .i64 s.kind) ∧ W.cell? ⟨w.heap.size, 1, none⟩ = some (.string s.table) ∧ W.cell? ⟨w.heap.size, 2, none⟩ = some (.string s.key) ∧ W.cell? ⟨w.heap.size, 3, none⟩ = some (.string s.to) ∧ W.cell? ⟨w.heap.size, 4, none⟩ = some (.string s.text) ∧ KB w s W := by
  have hc : ∀ r u, #[Value.int .i64 s.kind, .string s.table, .string s.key, .string s.to, .string s.text][r]? = some u → W.cell? ⟨w.heap.size, r, none⟩ = some u := fun r u hu => by
    rw [Below.cell (p := ⟨w.heap.size, r, none⟩) h (by simp)]; exact box_cell w s r u hu
  exact ⟨hc 0 _ rfl, hc 1 _ rfl, hc 2 _ rfl, hc 3 _ rfl, hc 4 _ rfl, h⟩
theorem KB.grown {v : Value} {ps : List PairV} (h : KB w s W) (hr : RowP (w.heap.size + 1) W v ps) (hg : W.grownBy W' v.ownBlock) : KB w s W' := by
  have e : (w.alloc (sO s)).heap.size = w.heap.size + 1 := by simp
  exact Below.grown h hg (Below.size h) (fun k hk => by rw [e]; exact (hr.lt hk).1)
end
set_option maxHeartbeats 3200000 in
set_option maxRecDepth 100000 in
theorem papply_any (ps : List PairV) (x : Option Addr) (n c : Nat) (s : StepV) (w : World) (h : PrsAt w x ps) (hn : ps.length = n) (_hc : n ≤ c) (hl : n ≤ 2147483647) (hok : PrsOk ps) (hs : StepOk s) (hT : StdS w) :
    Calls Tryz.prog 23 #[.slice x n c, sV s] w fun e w' => ∃ v, e = .returned (.tuple #[v, .int .i64 (applyP ps s).2]) ∧ OwnP w w' v (applyP ps s).1 := by
  have hK0 : KB w s (w.alloc (sO s)) := Below.refl _ _
  have hnil : ∀ W, KB w s W → OwnP w W (.slice none 0 0) [] := fun W hK => ⟨World.ownsRow_nil _ _ _ _, hK.base⟩
  have HNIL := Lib.hid hnil
  have HA : Hid (Calls Tryz.prog 37 #[.slice x n c] (w.alloc (sO s)) fun e w' => e = .returned (.bool (pairsB ps)) ∧ KB w s w') := Lib.hid ((arePairs_any ps x n c (w.alloc (sO s)) (h.below hK0.base) hn hl hok (hT.tab.below hK0.base)).mono fun e w' ⟨h1, h2⟩ => ⟨h1, hK0.next h2⟩)
  have HB : Hid (∀ W, KB w s W → Calls Tryz.prog 18 #[sV s] W fun e w' => e = .returned (.bool (rightS s)) ∧ KB w s w') := Lib.hid fun W hK => (pright_any s W hs (hT.below hK.base)).mono fun e w' ⟨h1, h2⟩ => ⟨h1, hK.next h2⟩
  have HCC : Hid (∀ W, KB w s W → _) := Lib.hid fun W hK => KB.cells hK
  cases h1 : pairsB ps with
  | false =>
    have hv : applyP ps s = ([], 1) := by unfold applyP; rw [if_pos h1]
    rw [hv]
    rw [h1] at HA
    clear h hn hl hok hs hT hK0 hnil h1 hv HB HCC
    obtain ⟨kd, tb, ky, to, tx⟩ := s
    unfold sO at HA
    unfold sV
    dsimp only at HA ⊢
    go_enter Tryz.func23, Tryz.ntmps23
    go_wp2_with (go_at_call 37; refine HA.out.mono ?_; rintro e w2 ⟨rfl, hk⟩; have HK := Lib.hid hk; clear hk)
    go_ret2
    exact ⟨_, rfl, HNIL.out _ HK.out⟩
  | true =>
  rw [h1] at HA
  cases h2 : rightS s with
  | false =>
    have hv : applyP ps s = ([], 160) := by unfold applyP; rw [if_neg (by simp [h1]), if_pos h2]
    rw [hv]
    rw [h2] at HB
    clear h hn hl hok hs hT hK0 hnil h1 h2 hv
    obtain ⟨kd, tb, ky, to, tx⟩ := s
    unfold sO at HA
    unfold sV at HB ⊢
    dsimp only at HA HB HCC ⊢
    go_enter Tryz.func23, Tryz.ntmps23
    go_wp2_with (first
      | (go_at_call 37; refine HA.out.mono ?_; rintro e w2 ⟨rfl, hk⟩; have HK := Lib.hid hk; obtain ⟨c0, c1, c2, c3, c4, _⟩ := HCC.out _ hk; clear hk)
      | (go_at_call 18; refine (HB.out _ HK.out).mono ?_; rintro e w3 ⟨rfl, hk⟩; have HK3 := Lib.hid hk; clear hk))
    go_ret2
    exact ⟨_, rfl, HNIL.out _ HK3.out⟩
  | true =>
  rw [h2] at HB
  obtain ⟨p1, p2, p3⟩ := pairsB_iff.1 h1
  have HCL : Hid (∀ W, KB w s W → Calls Tryz.prog 39 #[.slice x n c] W fun e w' => ∃ v', e = .returned v' ∧ RowP (w.heap.size + 1) w' v' ps ∧ KB w s w') := Lib.hid fun W hK => (clone_any ps x n c W (h.below hK.base) hn (by omega)).mono fun e w' ⟨v', h1, h2, h3⟩ => ⟨v', h1, h2.less (by have := Below.size hK; simpa using this), hK.next h3⟩
  have HCG : Hid (∀ W v', RowP (w.heap.size + 1) W v' ps → KB w s W → Calls Tryz.prog 38 #[v', sV s] W fun e w' => ∃ v'', e = .returned (.tuple #[v'', .int .i64 (chgQ ps s).2]) ∧ RowP (w.heap.size + 1) w' v'' (chgQ ps s).1 ∧ KB w s w') := Lib.hid fun W v' hr hK =>
    (pchanged_any ps (w.heap.size + 1) v' s W hr (by have := Below.size hK; simpa using this) (by omega) (by have := right_text h2; omega) hok (fun W' hg => hT.below (hK.grown hr hg).base)).mono fun e w' ⟨v'', h1, h2, h3, _⟩ => ⟨v'', h1, h2, hK.grown hr h3⟩
  have hd := chg_does (l := ps) h2
  have hkn := chg_known h1 h2
  have hap : applyP ps s = if (chgQ ps s).2 ≠ 0 then ([], (chgQ ps s).2) else if 500 < (doesP ps s).1.length then ([], 163) else ((doesP ps s).1, 0) := by
    unfold applyP
    rw [if_neg (by simp [h1]), if_neg (by simp [h2]), hd.1]
  have hlong := does_long (s := s) h1
  rw [hap]
  clear hap hd h hn hl hok hs hT hK0 hnil h1 h2 p1 p2 p3
  generalize chgQ ps s = r at HCG hkn ⊢
  generalize doesP ps s = dd at hkn hlong ⊢
  obtain ⟨r1, r2⟩ := r
  obtain ⟨d1, d2⟩ := dd
  dsimp only at HCG hkn hlong ⊢
  by_cases h0 : r2 = 0
  · subst h0
    rw [if_neg (by simp)]
    obtain ⟨_, k2, k3, k4, k5⟩ := hkn rfl
    have HK5 := Lib.hid k5
    clear hkn k5
    have HL : Hid (∀ W, RowP (w.heap.size + 1) W (.slice none 0 0) r1 → r1 = []) := Lib.hid fun W h => by
      rcases h.shape with ⟨_, h⟩ | ⟨g, cap, h, _⟩
      · exact h
      · cases h
    have HLN : Hid (∀ W v, RowP (w.heap.size + 1) W v r1 → ∃ x c, v = .slice x r1.length c) := Lib.hid fun W v h => by
      obtain ⟨x, c, h, _⟩ := h.prs
      exact ⟨x, c, h⟩
    have HOW : Hid (∀ W v qs, RowP (w.heap.size + 1) W v qs → Below w.heap.size w W → OwnP w W v qs) := Lib.hid fun W v qs hr hb => ⟨hr.less (Nat.le_succ _), hb⟩
    have hl1 : r1.length ≤ 501 := by rw [k2]; exact hlong
    have HFIN : Hid (∀ W v, RowP (w.heap.size + 1) W v r1 → KB w s W → (Calls Tryz.prog 40 #[v] W fun e w' => e = .returned (.tuple #[]) ∧ RowP (w.heap.size + 1) w' v r1 ∧ KB w s w') ∧
        ∀ W, RowP (w.heap.size + 1) W v r1 → KB w s W → Calls Tryz.prog 41 #[v, .func (.func 42) #[] #[]] W fun e w' => e = .returned (.tuple #[]) ∧ RowP (w.heap.size + 1) w' v d1 ∧ KB w s w') := Lib.hid fun W v hr hK => by
      obtain ⟨f1, f2⟩ := finish_any r1 (w.heap.size + 1) v W hr (by omega) k3 k4
      refine ⟨f1.mono fun e w' ⟨h1, h2, h3⟩ => ⟨h1, h2, hK.grown hr h3⟩, fun W2 hr2 hK2 => (f2 W2 hr2).mono fun e w' ⟨h1, qs, h2, h3, h4, h5⟩ => ⟨h1, ?_, hK2.grown hr2 h5⟩⟩
      rw [← HK5.out qs h2 h3]; exact h4
    have k2' := k2
    rw [← k2]
    clear k2 k3 k4 hlong HK5
    by_cases hm : 500 < r1.length
    · rw [if_pos hm]
      have qm : (500 : Int) < r1.length := by omega
      clear HFIN k2' hl1
      obtain ⟨kd, tb, ky, to, tx⟩ := s
      unfold sO at HA
      unfold sV at HB HCG ⊢
      dsimp only at HA HB HCC HCG ⊢
      go_enter Tryz.func23, Tryz.ntmps23
      go_wp2_with (first
        | (go_at_call 37; refine HA.out.mono ?_; rintro e w2 ⟨rfl, hk⟩; have HK := Lib.hid hk; obtain ⟨c0, c1, c2, c3, c4, _⟩ := HCC.out _ hk; clear hk)
        | (go_at_call 18; refine (HB.out _ HK.out).mono ?_; rintro e w3 ⟨rfl, hk⟩; have HK3 := Lib.hid hk; clear hk))
      clear c0 c1 c2 c3 c4
      go_region_held3 (fun W => W.cell? ⟨w.heap.size, 0, none⟩ = some (.int .i64 kd) ∧ W.cell? ⟨w.heap.size, 1, none⟩ = some (.string tb) ∧ W.cell? ⟨w.heap.size, 2, none⟩ = some (.string ky) ∧ W.cell? ⟨w.heap.size, 3, none⟩ = some (.string to) ∧ W.cell? ⟨w.heap.size, 4, none⟩ = some (.string tx) ∧ KB w ⟨kd, tb, ky, to, tx⟩ W)
        (first | assumption | exact HCC.out _ HK3.out | exact HCC.out _ HK3.out.drew) (first
        | (go_at_call 39; (with_reducible refine (HCL.out _ (And.right (And.right (And.right (And.right (And.right (by assumption))))))).mono ?_); rintro e w4 ⟨v', rfl, hr, hk⟩; have hs4 := HCC.out _ hk; dsimp only)
        | (go_at_call 38; (with_reducible refine (HCG.out _ _ (by assumption) (And.right (And.right (And.right (And.right (And.right (by assumption))))))).mono ?_); rintro e w5 ⟨v2, rfl, hr5, hk5⟩; have hs5 := HCC.out _ hk5; dsimp only)
        | fail)
      all_goals
        have HE := Lib.hid hk5
        obtain ⟨x5, c5, rfl⟩ := HLN.out _ _ hr5
        clear hr5 hk5 hs5 hs4 hr hk HCC HCL HCG HA HB
        go_wp2
        go_ret2
        exact ⟨_, rfl, HNIL.out _ HE.out⟩
    · rw [if_neg hm]
      have qm : ¬ (500 : Int) < r1.length := by omega
      clear k2' hl1
      obtain ⟨kd, tb, ky, to, tx⟩ := s
      unfold sO at HA
      unfold sV at HB HCG ⊢
      dsimp only at HA HB HCC HCG ⊢
      go_enter Tryz.func23, Tryz.ntmps23
      go_wp2_with (first
        | (go_at_call 37; refine HA.out.mono ?_; rintro e w2 ⟨rfl, hk⟩; have HK := Lib.hid hk; obtain ⟨c0, c1, c2, c3, c4, _⟩ := HCC.out _ hk; clear hk)
        | (go_at_call 18; refine (HB.out _ HK.out).mono ?_; rintro e w3 ⟨rfl, hk⟩; have HK3 := Lib.hid hk; clear hk))
      clear c0 c1 c2 c3 c4
      go_region_held3 (fun W => W.cell? ⟨w.heap.size, 0, none⟩ = some (.int .i64 kd) ∧ W.cell? ⟨w.heap.size, 1, none⟩ = some (.string tb) ∧ W.cell? ⟨w.heap.size, 2, none⟩ = some (.string ky) ∧ W.cell? ⟨w.heap.size, 3, none⟩ = some (.string to) ∧ W.cell? ⟨w.heap.size, 4, none⟩ = some (.string tx) ∧ KB w ⟨kd, tb, ky, to, tx⟩ W)
        (first | assumption | exact HCC.out _ HK3.out | exact HCC.out _ HK3.out.drew) (first
        | (go_at_call 39; (with_reducible refine (HCL.out _ (And.right (And.right (And.right (And.right (And.right (by assumption))))))).mono ?_); rintro e w4 ⟨v', rfl, hr, hk⟩; have hs4 := HCC.out _ hk; dsimp only)
        | (go_at_call 38; (with_reducible refine (HCG.out _ _ (by assumption) (And.right (And.right (And.right (And.right (And.right (by assumption))))))).mono ?_); rintro e w5 ⟨v2, rfl, hr5, hk5⟩; have hs5 := HCC.out _ hk5; dsimp only)
        | fail)
      all_goals
        obtain ⟨x5, c5, rfl⟩ := HLN.out _ _ hr5
        have HE := Lib.hid (And.intro hr5 hk5)
        have HF := Lib.hid (HFIN.out _ _ hr5 hk5)
        clear hr5 hk5 hs5 hs4 hr hk HCC HCL HCG HA HB HFIN
        go_wp2_with (first
          | (go_at_call 40; refine HF.out.1.mono ?_; rintro e w6 ⟨rfl, h1, h2⟩; have H6 := Lib.hid (And.intro h1 h2); clear h1 h2)
          | (go_at_call 41; refine (HF.out.2 _ H6.out.1 H6.out.2).mono ?_; rintro e w7 ⟨rfl, h1, h2⟩; have H7 := Lib.hid (And.intro h1 h2); clear h1 h2))
        go_ret2
        exact ⟨_, rfl, HOW.out _ _ _ H7.out.1 H7.out.2.base⟩
  · rw [if_pos h0]
    have q0 : (r2 == 0) = false := beq_eq_false_iff_ne.2 h0
    clear hkn hlong
    obtain ⟨kd, tb, ky, to, tx⟩ := s
    unfold sO at HA
    unfold sV at HB HCG ⊢
    dsimp only at HA HB HCC HCG ⊢
    go_enter Tryz.func23, Tryz.ntmps23
    go_wp2_with (first
      | (go_at_call 37; refine HA.out.mono ?_; rintro e w2 ⟨rfl, hk⟩; have HK := Lib.hid hk; obtain ⟨c0, c1, c2, c3, c4, _⟩ := HCC.out _ hk; clear hk)
      | (go_at_call 18; refine (HB.out _ HK.out).mono ?_; rintro e w3 ⟨rfl, hk⟩; have HK3 := Lib.hid hk; clear hk))
    clear c0 c1 c2 c3 c4
    go_region_held3 (fun W => W.cell? ⟨w.heap.size, 0, none⟩ = some (.int .i64 kd) ∧ W.cell? ⟨w.heap.size, 1, none⟩ = some (.string tb) ∧ W.cell? ⟨w.heap.size, 2, none⟩ = some (.string ky) ∧ W.cell? ⟨w.heap.size, 3, none⟩ = some (.string to) ∧ W.cell? ⟨w.heap.size, 4, none⟩ = some (.string tx) ∧ KB w ⟨kd, tb, ky, to, tx⟩ W)
      (first | assumption | exact HCC.out _ HK3.out | exact HCC.out _ HK3.out.drew) (first
      | (go_at_call 39; (with_reducible refine (HCL.out _ (And.right (And.right (And.right (And.right (And.right (by assumption))))))).mono ?_); rintro e w4 ⟨v', rfl, hr, hk⟩; have hs4 := HCC.out _ hk; dsimp only)
      | (go_at_call 38; (with_reducible refine (HCG.out _ _ (by assumption) (And.right (And.right (And.right (And.right (And.right (by assumption))))))).mono ?_); rintro e w5 ⟨v2, rfl, hr5, hk5⟩; have hs5 := HCC.out _ hk5; dsimp only)
      | fail)
    all_goals
      have HE := Lib.hid hk5
      clear hr5 hk5 hs5 hs4 hr hk HCC HCL HCG HA HB
      go_wp2
      go_ret2
      exact ⟨_, rfl, HNIL.out _ HE.out⟩
end Go.Proofs.YticcdighfojjjaaGreatDoor
