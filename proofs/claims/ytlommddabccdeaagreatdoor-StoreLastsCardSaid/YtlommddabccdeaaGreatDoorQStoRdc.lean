/-
  StoRcd, StoRdc.
-/
import Derived.Test.YtlommddabccdeaaGreatDoorQStoWr
import Derived.Test.YtlommddabccdeaaGreatDoorQCodecReader
import Derived.Test.YtlommddabccdeaaGreatDoorQJnlHead
import Derived.Laws.StructEq
namespace Go.Proofs.YtlommddabccdeaaGreatDoor
open Go.ChangeShapes Go.WideShapes Go.ChangeAt Go.RowKit

def rowC (says : Nat) (fo : ByteArray → ByteArray → Option (Option ByteArray)) (x : Plc) : List UInt8 := txL x.1 ++ (txL x.2 ++ conL says ((fo x.1 x.2).getD none))
def recB (says : Nat) (fo : ByteArray → ByteArray → Option (Option ByteArray)) (L : List Plc) : List UInt8 := rowL says ++ L.flatMap (rowC says fo)
def recT (says : Nat) (fo : ByteArray → ByteArray → Option (Option ByteArray)) (L : List Plc) (j : Nat) : List UInt8 := rowL says ++ (L.take j).flatMap (rowC says fo)
theorem recT_zero (says : Nat) (fo : ByteArray → ByteArray → Option (Option ByteArray)) (L : List Plc) : recT says fo L 0 = rowL says := by simp [recT]
theorem recT_succ (says : Nat) (fo : ByteArray → ByteArray → Option (Option ByteArray)) (L : List Plc) (j : Nat) (h : j < L.length) : recT says fo L (j + 1) = recT says fo L j ++ txL L[j].1 ++ txL L[j].2 ++ conL says ((fo L[j].1 L[j].2).getD none) := by
 unfold recT
 rw [List.take_add_one, List.getElem?_eq_getElem h, Option.toList_some, List.flatMap_append, List.flatMap_singleton]
 simp only [rowC, List.append_assoc]
theorem recT_end (says : Nat) (fo : ByteArray → ByteArray → Option (Option ByteArray)) (L : List Plc) : recT says fo L L.length = recB says fo L := by simp [recT, recB]
theorem rowL_one (n : Nat) (h : n = 0 ∨ n = 1) : (rowL n).length = 1 := by
 rcases h with rfl | rfl
 ·rw [rowL_small (by decide)]; rfl
 ·rw [rowL_small (by decide)]; rfl
set_option maxHeartbeats 1600000 in
set_option maxRecDepth 100000 in
theorem recordOf_any (w : World) (M n : Nat) (fo : ByteArray → ByteArray → Option (Option ByteArray)) (B : List Plc) (h : KMap w M n (fun t k => (fo t k).map conV)) (hB : ∀ t k : ByteArray, t.size ≤ maxLen → k.size ≤ maxLen → (fo t k).isSome = true → (t, k) ∈ B) (hl : B.length ≤ 1000000)
  (hs : ∀ t k o, fo t k = some o → t.size ≤ 65535 ∧ k.size ≤ 65535 ∧ (o.getD emB).size ≤ 65535) (says : Nat) (hsy : says = 0 ∨ says = 1) (most : Int) (hm : most ≤ 60000) (hh : Hand w) :
  Calls Tryz.prog 48 #[.int .i64 says, .map (some M), .int .i64 most] w fun e w' => ∃ L, RisL (fun t k => (fo t k).map conV) L ∧ Below w.heap.size w w' ∧ e = .returned (.tuple #[str (stW (max most 0) (recB says fo L)).1, .bool (decide (((recB says fo L).length : Int) ≤ max most 0))]) := by
 obtain ⟨m, hmm⟩ : ∃ m, max most 0 = m := ⟨_, rfl⟩
 have hm0 : 0 ≤ m := by omega
 have hm2 : m ≤ 60000 := by omega
 have HNW : Hid (Calls Tryz.prog 70 #[.int .i64 most] w fun e w' => e = .returned (.pointer (some ⟨w.heap.size, 0, none⟩)) ∧ RecAt w w' w.heap.size m [] none [] []) := Lib.hid ((newWriter_any most w).mono fun e w' ⟨he, hw⟩ => ⟨he, by
  rw [hw, hmm]
  refine ⟨[w.heap.size], ?_, fun k hk => by rw [List.mem_singleton] at hk; omega, (Below.refl _ w).alloc (Nat.le_refl _) _, PlsAt.nil_ _ _, fun h => absurd h (by simp), fun q hq => by cases hq⟩
  have := wtr_new w m
  unfold stW
  rw [if_pos (by simpa using hm0)]
  exact this⟩)
 have HN : Hid (∀ W t, RecAt w W w.heap.size m t none [] [] → Calls Tryz.prog 71 #[.pointer (some ⟨w.heap.size, 0, none⟩), .int .i64 says] W fun e w' => e = .returned (.tuple #[]) ∧ RecAt w w' w.heap.size m (t ++ rowL says) none [] []) := Lib.hid fun W t hr => recNum hr hm0 hm2 says hsy
 have HT : Hid (∀ (s : ByteArray) W t x L A, s.size ≤ 65535 → RecAt w W w.heap.size m t x L A → Calls Tryz.prog 72 #[.pointer (some ⟨w.heap.size, 0, none⟩), .string s] W fun e w' => e = .returned (.tuple #[]) ∧ RecAt w w' w.heap.size m (t ++ txL s) x L A) := Lib.hid fun s W t x L A hs hr => recText hr hm0 hm2 s hs
 have HC : Hid (∀ (o : Option ByteArray) W t x L A, (o.getD emB).size ≤ 65535 → RecAt w W w.heap.size m t x L A → Calls Tryz.prog 73 #[.pointer (some ⟨w.heap.size, 0, none⟩), .int .i64 says, conV o] W fun e w' => e = .returned (.tuple #[]) ∧ RecAt w w' w.heap.size m (t ++ conL says o) x L A) := Lib.hid fun o W t x L A ho hr => writeCon_any w W _ m t x L A hr hm0 hm2 says hsy o ho
 have HRI : Hid (∀ W, RecAt w W w.heap.size m (rowL says) none [] [] → Calls Tryz.prog 38 #[.map (some M)] W fun e w' => ∃ x c L, e = .returned (.slice x L.length c) ∧ RisL (fun t k => (fo t k).map conV) L ∧ L.length ≤ 1000000 ∧ RecAt w w' w.heap.size m (rowL says) x L []) := Lib.hid fun W hr =>
  (rising_any W M n _ B (h.below hr.since) (fun t k a b c => hB t k a b (by simpa using c)) hl).mono fun e w' ⟨x, c, L, he, hp, hL, hl2, hb, hxg⟩ => ⟨x, c, L, he, hL, hl2, by
   obtain ⟨F, a1, a2, a3, a4, a5, a6⟩ := hr
   refine ⟨F, a1.kept fun k hk => hb.block k (a1.lt k hk), a2, a3.trans (hb.mono a3.size), hp, fun h0 g o hx hg => ?_, fun q hq => by cases hq⟩
   have h7 := a1.lt _ hg
   have h8 := hxg g o hx
   omega⟩
 have HD : Hid (∀ W t x L, RecAt w W w.heap.size m t x L [] → Calls Tryz.prog 74 #[.pointer (some ⟨w.heap.size, 0, none⟩)] W fun e w' => e = .returned (.tuple #[str (stW m t).1, .int .i64 (stW m t).2]) ∧ Below w.heap.size w w') := Lib.hid fun W t x L hr => by
  have hb := hr.since
  obtain ⟨F, a1, a2, a3, a4, a5, a6⟩ := hr
  exact (done_any W _ F m (stW m t) a1 (hh.below hb hh.pos)).mono fun e w' ⟨he, hw⟩ => ⟨he, hb.trans (hw.mono hb.size)⟩
 have HM : Hid (∀ W t x L A, RecAt w W w.heap.size m t x L A → KMap W M n (fun t k => (fo t k).map conV)) := Lib.hid fun W t x L A hr => h.below hr.since
 have HS : Hid (∀ (L : List Plc), RisL (fun t k => (fo t k).map conV) L → ∀ j (hj : j < L.length), L[j].1.size ≤ 65535 ∧ L[j].2.size ≤ 65535 ∧ (((fo L[j].1 L[j].2).getD none).getD emB).size ≤ 65535) := Lib.hid fun L hL j hj => by
  have hmem : L[j] ∈ L := List.getElem_mem hj
  obtain ⟨a, b⟩ := hL.small _ hmem
  have := (hL.is L[j].1 L[j].2 a b).2 hmem
  rw [Option.isSome_map] at this
  obtain ⟨o, ho⟩ := Option.isSome_iff_exists.1 this
  rw [ho]
  exact hs _ _ _ ho
 have HMX : Hid ((65535 : Nat) ≤ maxLen) := Lib.hid (by unfold maxLen; omega)
 rw [hmm]
 clear h hB hl hs hsy hm hh hmm hm0 hm2
 go_enter Tryz.func48, Tryz.ntmps48
 go_wp2_with (first
  | (go_at_call 70; refine HNW.out.mono ?_; rintro e w1 ⟨rfl, hr1⟩; have HR1 := Lib.hid hr1; clear hr1)
  | (go_at_call 71; refine (HN.out _ _ HR1.out).mono ?_; rintro e w2 ⟨rfl, hr2⟩; have HR2 := Lib.hid hr2; clear hr2)
  | (go_at_call 38; refine (HRI.out _ HR2.out).mono ?_; rintro e w3 ⟨x, c, L, rfl, hL, hl2, hr3⟩; have HL := Lib.hid (And.intro hL hl2); have HR3 := Lib.hid hr3; clear hL hl2 hr3))
 go_loopw [21] (fun i wr => ∃ j : Nat, i = .int .i64 j ∧ j ≤ L.length ∧ Hid (RecAt w wr w.heap.size m (recT says fo L j) x L [])) (fun i _ => L.length - (intOf i).toNat)
 case atStart => exact ⟨0, rfl, Nat.zero_le _, Lib.hid (by rw [recT_zero]; exact HR3.out)⟩
 case round =>
  obtain ⟨j, rfl, hj, HR⟩ := hrel
  by_cases hlt : j < L.length
  ·obtain ⟨g, off, hx, hgl, c0, c1⟩ : ∃ g off, x = some ⟨g, off, none⟩ ∧ g < wr.heap.size ∧ wr.cell? ⟨g, off + j * 2, none⟩ = some (.string L[j].1) ∧ wr.cell? ⟨g, off + j * 2 + 1, none⟩ = some (.string L[j].2) := by
    obtain ⟨F, a1, a2, a3, a4, a5, a6⟩ := HR.out
    exact a4 j hlt
   subst hx
   obtain ⟨s1, s2, s3⟩ := HS.out L HL.out.1 j hlt
   have hsucc := recT_succ says fo L j hlt
   obtain ⟨X, hX⟩ : ∃ X, L[j] = X := ⟨_, rfl⟩
   rw [hX] at s1 s2 s3 hsucc c0 c1
   clear hX
   obtain ⟨T, K⟩ := X
   simp only at s1 s2 s3 hsucc c0 c1
   have q0 : (0 : Int) ≤ j := by omega
   have q1 : (j : Int) < (L.length : Int) := by omega
   have hw1 : IntKind.i64.wrap ((j : Int) + 1) = ((j + 1 : Nat) : Int) := by have := HL.out.2; rw [IntWalk.i64_in _ (by omega)]; omega
   have HG : Hid ((((fo T K).map conV).getD (conV none)) = conV ((fo T K).getD none)) := Lib.hid (by cases fo T K <;> rfl)
   have HLT := Lib.hid hlt
   obtain ⟨o, ho⟩ : ∃ o, (fo T K).getD none = o := ⟨_, rfl⟩
   rw [ho] at hsucc s3 HG
   have HE := Lib.hid hsucc
   have HX := Lib.hid (And.intro s1 (And.intro s2 s3))
   clear s1 s2 s3 ho hgl hlt hsucc
   have HRA := Lib.hid (HR.out.alloc (Obj.cells #[.string T, .string K] 66))
   go_wp2_with (first
    | (go_at_call 72; (with_reducible refine (HT.out T _ _ _ _ _ HX.out.1 HRA.out).mono ?_); rintro e w4 ⟨rfl, hr4⟩; have HR4 := Lib.hid hr4; have d1 := cell_at hr4.block (k := 1) rfl; clear hr4)
    | (go_at_call 72; (with_reducible refine (HT.out K _ _ _ _ _ HX.out.2.1 HR4.out).mono ?_); rintro e w5 ⟨rfl, hr5⟩; have HR5 := Lib.hid hr5; have f0 := cell_at hr5.block (k := 0) rfl; have f1 := cell_at hr5.block (k := 1) rfl; clear hr5)
    | (at_lookup; refine wpList_look_k rfl _ _ _ _ rfl Tryz.underlying59 _ (zeroC _) rfl T K rfl (HM.out _ _ _ _ _ HR5.out) (Nat.le_trans HX.out.1 HMX.out) (Nat.le_trans HX.out.2.1 HMX.out) _ HG.out ?_)
    | (go_at_call 73; refine (HC.out o _ _ _ _ _ HX.out.2.2 HR5.out).mono ?_; rintro e w6 ⟨rfl, hr6⟩; have HR6 := Lib.hid hr6; clear hr6)
    | go_in)
   go_roundw
   case rel => exact ⟨j + 1, rfl, HLT.out, Lib.hid (by rw [HE.out]; exact HR6.out.less fun _ h => absurd h List.not_mem_nil)⟩
   case measure => have := HLT.out; simp [intOf]; omega
  ·have e : j = L.length := by omega
   subst e
   have q1 : ¬ (L.length : Int) < (L.length : Int) := by omega
   have HRE : Hid (RecAt w wr w.heap.size m (recB says fo L) x L []) := Lib.hid (by rw [← recT_end]; exact HR.out)
   have HEQ : Hid ((((stW m (recB says fo L)).2 == 0) : Bool) = decide (((recB says fo L).length : Int) ≤ m)) := Lib.hid (by
    unfold stW
    split
    ·rename_i h; simp [h]
    ·rename_i h; simp [h])
   obtain ⟨E, hE⟩ : ∃ E, (stW m (recB says fo L)).2 = E := ⟨_, rfl⟩
   rw [hE] at HEQ
   have HD2 := Lib.hid (HD.out wr _ _ _ HRE.out)
   rw [hE] at HD2
   clear hE
   obtain ⟨SL, hSL⟩ : ∃ SL, (stW m (recB says fo L)).1 = SL := ⟨_, rfl⟩
   rw [hSL] at HD2
   have HFIN : Hid (Ending.returned (.tuple #[str SL, .bool (E == 0)]) = Ending.returned (.tuple #[str (stW m (recB says fo L)).1, .bool (decide (((recB says fo L).length : Int) ≤ m))])) := Lib.hid (by rw [HEQ.out, hSL])
   clear hSL
   go_wp2_with (go_at_call 74; refine HD2.out.mono ?_; rintro e w4 ⟨rfl, hb4⟩; have HB4 := Lib.hid hb4; clear hb4)
   go_ret2
   exact ⟨L, HL.out.1, HB4.out, HFIN.out⟩
end Go.Proofs.YtlommddabccdeaaGreatDoor

namespace Go.Proofs.YtlommddabccdeaaGreatDoor
open Go.ChangeShapes Go.WideShapes Go.ChangeAt Go.RowKit

theorem eqlCx (b1 b2 : Bool) (a b : ByteArray) (w : World) : (binOp .eql 68 (.agg #[.bool b1, .string a]) (.agg #[.bool b2, .string b])).run Tryz.prog w = .ok (.bool (b1 == b2 && a.toList == b.toList)) w := by
 have u4 := Tryz.underlying4
 have u9 := Tryz.underlying9
 have hS : Tryz.prog.underlying 68 = some (.struct (Tryz.prog.fieldsOf 68)) := by kernel_rfl
 have hp : Tryz.prog.stoodInHeld 68 = false := by kernel_rfl
 rw [run_eql_struct, show (10000 : Nat) = 9999 + 1 from rfl, run_equalIn_agg w 9999 68 _ _ hS hp]
 simp only [Program.fieldsOf, Tryz.underlying68]
 cases b1 <;> cases b2 <;> cases hx : (a.toList == b.toList) <;> go_simp
theorem eqlC (a b : Option ByteArray) (w : World) : (binOp .eql 68 (conV a) (conV b)).run Tryz.prog w = .ok (.bool (decide (a = b))) w := by
 cases a <;> cases b
 ·exact (eqlCx _ _ _ _ w).trans (by simp)
 ·exact (eqlCx _ _ _ _ w).trans (by simp)
 ·exact (eqlCx _ _ _ _ w).trans (by simp)
 ·rename_i a b
  refine (eqlCx _ _ _ _ w).trans ?_
  have : (a.toList == b.toList) = decide (some a = some b) := by
   rw [show (a.toList == b.toList) = eqB a b from rfl]
   by_cases h : a = b
   ·rw [eqB_iff.2 h, h]; simp
   ·rw [eqB_ne h]; simp [h]
  rw [this]; rfl
theorem eqlC_guard (x y : Operand) (xs ys : Array Value) (w : World) : (eqGuard .eql 68 x y (.agg xs) (.agg ys)).run Tryz.prog w = .ok () w :=
 run_eqGuard_agg w .eql 68 x y xs ys (by kernel_rfl)
theorem numR_0 (r : List UInt8) : numR (rowL 0 ++ r, 0) = (0, r, 0) := by unfold numR; rw [if_neg (by simp)]; exact takeN_0 r
theorem numR_1 (r : List UInt8) : numR (rowL 1 ++ r, 0) = (1, r, 0) := by unfold numR; rw [if_neg (by simp)]; exact takeN_1 r
theorem textR_tx {s : ByteArray} {m : Int} (hm : (s.size : Int) ≤ m) (h : s.size ≤ 65535) (r : List UInt8) : textR (txL s ++ r, 0) m = (s.data.toList, r, 0) := by unfold textR; rw [if_neg (by simp)]; exact takeT_tx hm h r
set_option maxHeartbeats 800000 in
theorem readCon_any (w : World) (b g : Nat) (says : Nat) (hsy : says = 0 ∨ says = 1) (o : Option ByteArray) (ho : says = 1 → o.isSome = true) (hv : (o.getD emB).size ≤ 200) (r : List UInt8) (hr : r.length ≤ 60000) (h : Rdr w b g (conL says o ++ r, 0)) :
  Calls Tryz.prog 91 #[.pointer (some ⟨b, 0, none⟩), .int .i64 says] w fun e w' => e = .returned (.tuple #[conV o, .bool true]) ∧ Rdr w' b g (r, 0) ∧ Upd [b] w w' := by
 have HZ : Hid (∀ W, (zeroValue 68).run Tryz.prog W = .ok (.agg #[.bool false, .string ⟨#[]⟩]) W) := Lib.hid fun W => zeroC W
 have HA : Hid (∀ a, Rdr (w.alloc a) b g (conL says o ++ r, 0)) := Lib.hid fun a => h.below ((Below.refl _ w).alloc (Nat.le_refl _) _)
 have HBL := Lib.hid h.lt
 have HN : Hid (∀ W st, Rdr W b g st → st.1.length ≤ 100000 → Calls Tryz.prog 87 #[.pointer (some ⟨b, 0, none⟩)] W fun e w' => e = .returned (.int .i64 (numR st).1) ∧ Rdr w' b g (numR st).2 ∧ Upd [b] W w') := Lib.hid fun W st hs hl => rnum_any W b g st hs (by omega)
 have HT : Hid (∀ W st, Rdr W b g st → st.1.length ≤ 100000 → Calls Tryz.prog 90 #[.pointer (some ⟨b, 0, none⟩), .int .i64 200] W fun e w' => e = .returned (str (textR st 200).1) ∧ Rdr w' b g (textR st 200).2 ∧ Upd [b] W w') := Lib.hid fun W st hs hl => rtext_any W b g st 200 hs (by omega)
 have HK0 : Hid (∀ w2, Upd [b] (w.alloc (Obj.cells #[.bool false, .string ⟨#[]⟩] 68)) w2 → w2.heap[w.heap.size]? = some (Obj.cells #[.bool false, .string ⟨#[]⟩] 68 (0, 0))) := Lib.hid fun w2 hu => (hu.block _ (by simp) (by have := h.lt.1; simp; omega)).trans (heap_alloc_new w _)
 have HK1 : Hid (∀ w2 : World, w2.heap[w.heap.size]? = some (Obj.cells #[.bool false, .string ⟨#[]⟩] 68 (0, 0)) → w2.cell? ⟨w.heap.size, 0, none⟩ = some (.bool false) ∧ w2.cell? ⟨w.heap.size, 1, none⟩ = some (.string ⟨#[]⟩) ∧ w2.frozen? ⟨w.heap.size, 0, none⟩ = false ∧ w2.frozen? ⟨w.heap.size, 1, none⟩ = false) := Lib.hid fun w2 hk => ⟨cell_at hk (k := 0) rfl, cell_at hk (k := 1) rfl, free_at hk, free_at hk⟩
 have HEND : Hid (∀ w2 : World, w2.heap[w.heap.size]? = some (Obj.cells #[.bool false, .string ⟨#[]⟩] 68 (0, 0)) → ∀ x y : Value, (loadVar 68 ⟨w.heap.size, 0, none⟩).run Tryz.prog ((w2.setCell ⟨w.heap.size, 0, none⟩ x).setCell ⟨w.heap.size, 1, none⟩ y) = .ok (.agg #[x, y]) ((w2.setCell ⟨w.heap.size, 0, none⟩ x).setCell ⟨w.heap.size, 1, none⟩ y)) := Lib.hid fun w2 hk x y => by
  have h5 := heap_set_at (k := 1) (heap_set_at (k := 0) hk x) y
  exact run_loadVar_row (P := Tryz.prog) _ w.heap.size 68 68 _ (0, 0) _ h5 Tryz.underlying68 rfl (by kernel_rfl)
 have HFIN : Hid (∀ (w2 : World) (x y : Value), Rdr w2 b g (r, 0) → Upd [b] (w.alloc (Obj.cells #[.bool false, .string ⟨#[]⟩] 68)) w2 → Rdr ((w2.setCell ⟨w.heap.size, 0, none⟩ x).setCell ⟨w.heap.size, 1, none⟩ y) b g (r, 0) ∧ Upd [b] w ((w2.setCell ⟨w.heap.size, 0, none⟩ x).setCell ⟨w.heap.size, 1, none⟩ y)) := Lib.hid fun w2 x y hr hu => by
  obtain ⟨h1, h2⟩ := h.lt
  refine ⟨hr.kept (by simp [World.setCell]) ?_ ?_, ?_⟩
  ·rw [Below.heap_setCell _ _ _ _ (by show b ≠ w.heap.size; omega), Below.heap_setCell _ _ _ _ (by show b ≠ w.heap.size; omega)]
  ·rw [Below.heap_setCell _ _ _ _ (by show g ≠ w.heap.size; omega), Below.heap_setCell _ _ _ _ (by show g ≠ w.heap.size; omega)]
  ·have h6 : Upd [b] w w2 := (Upd.of_below ((Below.refl _ w).alloc (Nat.le_refl _) _)).trans hu (fun _ hx => Or.inl hx)
   exact (h6.setCell (Or.inr (Nat.le_refl _)) _).setCell (Or.inr (Nat.le_refl _)) _
 clear h
 rcases hsy with rfl | rfl
 ·cases o with
  | none =>
   have H0 : Hid (∀ a, Calls Tryz.prog 87 #[.pointer (some ⟨b, 0, none⟩)] (w.alloc a) fun e w' => e = .returned (.int .i64 0) ∧ Rdr w' b g (r, 0) ∧ Upd [b] (w.alloc a) w') := Lib.hid fun a => by
    have := HN.out _ _ (HA.out a) (by rw [show conL 0 none = rowL 0 from rfl, List.length_append, rowL_one 0 (Or.inl rfl)]; omega)
    rw [show conL 0 none = rowL 0 from rfl, numR_0] at this
    exact this
   clear HN HT HA ho hv
   unfold conV
   go_enter Tryz.func91, Tryz.ntmps91
   go_wp2_with (go_at_call 87; refine (H0.out _).mono ?_; rintro e w2 ⟨rfl, hr2, hu2⟩; have HR2 := Lib.hid (And.intro hr2 hu2); have HK := Lib.hid (HK0.out _ hu2); obtain ⟨e0, e1, f0, f1⟩ := HK1.out _ HK.out; clear hr2 hu2)
   have hl := HEND.out _ HK.out (Value.bool false) (Value.string emB)
   refine bodyPost_ret (v := .tuple #[.agg #[.bool false, .string emB], .bool true]) ?_ rfl ?_
   ·exact results_cell_tmp_of rfl _ _ _ _ _ rfl hl rfl
   ·exact ⟨rfl, HFIN.out _ _ _ HR2.out.1 HR2.out.2⟩
  | some v =>
   have e1 : conL 0 (some v) = rowL 1 ++ txL v := rfl
   have hv2 : v.size ≤ 200 := hv
   have hln : (rowL 1 ++ (txL v ++ r)).length ≤ 100000 := by
    rw [List.length_append, List.length_append, rowL_one 1 (Or.inr rfl)]
    have := txL_len v (by omega)
    omega
   have hln2 : (txL v ++ r).length ≤ 100000 := by rw [List.length_append] at hln; omega
   have H0 : Hid (∀ a, Calls Tryz.prog 87 #[.pointer (some ⟨b, 0, none⟩)] (w.alloc a) fun e w' => e = .returned (.int .i64 1) ∧ Rdr w' b g (txL v ++ r, 0) ∧ Upd [b] (w.alloc a) w') := Lib.hid fun a => by
    have h0 := HA.out a
    rw [e1, List.append_assoc] at h0
    have := HN.out _ _ h0 hln
    rw [numR_1] at this
    exact this
   have H1 : Hid (∀ W, Rdr W b g (txL v ++ r, 0) → Calls Tryz.prog 90 #[.pointer (some ⟨b, 0, none⟩), .int .i64 200] W fun e w' => e = .returned (.string v) ∧ Rdr w' b g (r, 0) ∧ Upd [b] W w') := Lib.hid fun W hs => by
    have := HT.out W _ hs hln2
    rw [textR_tx (by omega) (by omega)] at this
    exact this
   clear HN HT HA ho hv hv2 hln hln2 e1
   unfold conV
   go_enter Tryz.func91, Tryz.ntmps91
   go_wp2_with (first
    | (go_at_call 87; refine (H0.out _).mono ?_; rintro e w2 ⟨rfl, hr2, hu2⟩; have HR2 := Lib.hid (And.intro hr2 hu2); clear hr2 hu2)
    | (go_at_call 90; refine (H1.out _ HR2.out.1).mono ?_; rintro e w3 ⟨rfl, hr3, hu3⟩; have HR3 := Lib.hid (And.intro hr3 (HR2.out.2.trans hu3 (fun _ hx => Or.inl hx))); have HK := Lib.hid (HK0.out _ HR3.out.2); obtain ⟨e0, e1, f0, f1⟩ := HK1.out _ HK.out; clear hr3 hu3))
   have hl := HEND.out _ HK.out (Value.bool true) (Value.string v)
   refine bodyPost_ret (v := .tuple #[.agg #[.bool true, .string v], .bool true]) ?_ rfl ?_
   ·exact results_cell_tmp_of rfl _ _ _ _ _ rfl hl rfl
   ·exact ⟨rfl, HFIN.out _ _ _ HR3.out.1 HR3.out.2⟩
 ·cases o with
  | none => exact absurd (ho rfl) (by simp)
  | some v =>
   have e1 : conL 1 (some v) = txL v := rfl
   have hv2 : v.size ≤ 200 := hv
   have hln2 : (txL v ++ r).length ≤ 100000 := by
    rw [List.length_append]
    have := txL_len v (by omega)
    omega
   have H1 : Hid (∀ a, Calls Tryz.prog 90 #[.pointer (some ⟨b, 0, none⟩), .int .i64 200] (w.alloc a) fun e w' => e = .returned (.string v) ∧ Rdr w' b g (r, 0) ∧ Upd [b] (w.alloc a) w') := Lib.hid fun a => by
    have h0 := HA.out a
    rw [e1] at h0
    have := HT.out _ _ h0 hln2
    rw [textR_tx (by omega) (by omega)] at this
    exact this
   clear HN HT HA ho hv hv2 hln2 e1
   unfold conV
   go_enter Tryz.func91, Tryz.ntmps91
   go_wp2_with (go_at_call 90; refine (H1.out _).mono ?_; rintro e w2 ⟨rfl, hr2, hu2⟩; have HR2 := Lib.hid (And.intro hr2 hu2); have HK := Lib.hid (HK0.out _ hu2); obtain ⟨e0, e1, f0, f1⟩ := HK1.out _ HK.out; clear hr2 hu2)
   have hl := HEND.out _ HK.out (Value.bool true) (Value.string v)
   refine bodyPost_ret (v := .tuple #[.agg #[.bool true, .string v], .bool true]) ?_ rfl ?_
   ·exact results_cell_tmp_of rfl _ _ _ _ _ rfl hl rfl
   ·exact ⟨rfl, HFIN.out _ _ _ HR2.out.1 HR2.out.2⟩
end Go.Proofs.YtlommddabccdeaaGreatDoor
