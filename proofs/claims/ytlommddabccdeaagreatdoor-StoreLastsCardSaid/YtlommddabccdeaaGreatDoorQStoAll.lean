/-
  StoAll.
-/
import Derived.Test.YtlommddabccdeaaGreatDoorQStoPut
namespace Go.Proofs.YtlommddabccdeaaGreatDoor
open Go.ChangeShapes Go.WideShapes Go.ChangeAt Go.RowKit

theorem fieldC (b : Bool) (v : ByteArray) (W : World) : (Instr.field 68 (.agg #[.bool b, .string v]) 1).run Tryz.prog W = .ok (.string v) W := by kernel_rfl
structure AllAt (w wr : World) (C : Nat) (v : Value) (x : Option Addr) (ps : List PairV) (i : Nat) : Prop where
 own : OwnP w wr v (ps.take i)
 pls : PlsAt wr x (ptsL ps)
 ne : ∀ gg, v.ownBlock = some gg → ∀ g o, x = some ⟨g, o, none⟩ → gg ≠ g
theorem append_one {w0 w : World} {v : Value} {ps : List PairV} {q : PairV} (hown : OwnP w0 w v ps) (hn : ps.length ≤ 10000000) {g c : Nat} (hq : PrsAt w (some ⟨g, 0, none⟩) [q]) (ty : TypeId) :
  ∃ y cap w', (Builtin.append_ #[35, 35] ty #[v, .slice (some ⟨g, 0, none⟩) 1 c]).run Tryz.prog w = .ok (.slice (some ⟨y, 0, none⟩) (ps.length + 1) cap) w' ∧ OwnP w0 w' (.slice (some ⟨y, 0, none⟩) (ps.length + 1) cap) (ps ++ [q]) ∧ w.grownBy w' v.ownBlock ∧ (v.ownBlock = some y ∨ y = w.heap.size) := by
 obtain ⟨i0, hi, hz0, hz1, hz2⟩ := info_parts infoPr
 have hz := hown.below.size
 obtain ⟨y, cap, w1, hr, h1, h2, h3, _⟩ := run_append_lies w 35 ty w0.heap.size 42 i0 _ 3 48 Tryz.underlying35 hi hz0 hz1 hz2 rfl (by decide) v ps.length (pFlat ps) hown.own ⟨g, 0, none⟩ 1 c (pFlat [q]) (pFlat_len [q]) (fun j u hj => by rw [addr_at]; exact hq.cells j u hj) (pFlat_one [q]) (by omega) (by unfold maxLen; omega) (by omega) hz _ rfl
 refine ⟨y, cap, w1, hr, ⟨?_, hown.below.grown h2 hz (fun k hk => (hown.own.lt k hk).1)⟩, h2, h3⟩
 rw [List.length_append, pFlat_append]
 exact h1
theorem step_append_run {ops : Array Oper} {o : Oper} {a : Act} {w w' : World} {K : Act → World → Prop} {Q : Exit → Act → World → Prop} {E : Prop} (hg : o.guard = none) (s x : Operand) (T : TypeId) (hop : o.op = Op.call { callee := Callee.builtin Builtin.append, args := #[s, x], argTypes := #[T, T] }) (v u r : Value)
  (hs : a.eval s = v) (hx : a.eval x = u) (hrun : (Builtin.append_ #[T, T] o.type #[v, u]).run Tryz.prog w = .ok r w') (hK : K (a.put o.dst r) w') : if Region.wanted o (yielded ops a.tmps) = true then Oper.wp Tryz.prog o a w K Q else E := by
 have hw : Region.wanted o (yielded ops a.tmps) = true := by simp [Region.wanted, hg]
 rw [if_pos hw]
 unfold Oper.wp
 simp [execOp, hop, resolve, invoke, builtin, hs, hx, hrun, Result.andThen]
 exact hK
theorem AllAt.came {w wr W w9 : World} {C : Nat} {v : Value} {x : Option Addr} {ps : List PairV} {j y cap n : Nat} {p : PairV} (h : AllAt w wr C v x ps j) (hW : Below wr.heap.size wr W) (htk : ps.take (j + 1) = ps.take j ++ [p]) (ho : OwnP w w9 (.slice (some ⟨y, 0, none⟩) n cap) (ps.take j ++ [p])) (hg : W.grownBy w9 v.ownBlock) (hy : v.ownBlock = some y ∨ y = W.heap.size) : AllAt w w9 C (.slice (some ⟨y, 0, none⟩) n cap) x ps (j + 1) := by
 refine ⟨by rw [htk]; exact ho, fun k hk => ?_, fun gg hgg g o hx => ?_⟩
 ·obtain ⟨g, off, e1, hl, c0, c1⟩ := h.pls k hk
  have hb : w9.heap[g]? = wr.heap[g]? := by
   rw [hg.block g (Nat.lt_of_lt_of_le hl hW.size) (fun e => h.ne g e.symm g off e1 rfl)]
   exact hW.block g hl
  refine ⟨g, off, e1, Nat.lt_of_lt_of_le hl (Nat.le_trans hW.size hg.size), ?_, ?_⟩
  ·rw [World.cell?_of_block (w := wr) (a := ⟨g, off + k * 2, none⟩) hb]; exact c0
  ·rw [World.cell?_of_block (w := wr) (a := ⟨g, off + k * 2 + 1, none⟩) hb]; exact c1
 ·have e1 : y = gg := by simpa [Value.ownBlock] using hgg
  subst e1
  rcases hy with hy | hy
  ·exact h.ne y hy g o hx
  ·intro e
   by_cases h0 : 0 < (ptsL ps).length
   ·obtain ⟨g', off, e2, hl, _⟩ := h.pls 0 h0
    rw [hx] at e2
    injection e2 with e2
    injection e2 with e2
    have := hW.size
    omega
   ·have : ps = [] := by
     cases ps with
     | nil => rfl
     | cons a b => simp [ptsL] at h0
    rw [this] at htk
    simp at htk
set_option maxHeartbeats 1600000 in
set_option maxRecDepth 100000 in
theorem all_any (w : World) (S : Nat) (D : DskP) (d : DskV) (FS : List Nat) (X : StoX) (h : StoOk w S D d FS X) :
  Calls Tryz.prog 20 #[.pointer (some ⟨S, 0, none⟩)] w fun e w' => ∃ v, e = .returned v ∧ OwnP w w' v X.ps := by
 obtain ⟨J, C, og, hM, rfl⟩ := h.sto
 obtain ⟨n, hmC⟩ := hM.com
 have HLV := Lib.hid (slives_any w S J C og D d X hM h.dsk h.set.live)
 have c1 : w.cell? ⟨S, 1, none⟩ = some (.map (some C)) := cell_at hM.obj (k := 1) rfl
 have hiff : ∀ t k, (comF X.ps t k).isSome = true ↔ (t, k) ∈ ptsL X.ps := fun t k => by
  unfold comF
  rw [Option.isSome_map, mem_ptsL h.rise.1, Option.isSome_iff_exists]
 have hlen : (ptsL X.ps).length = X.ps.length := by simp [ptsL]
 have HRI : Hid (Calls Tryz.prog 38 #[.map (some C)] w fun e w' => ∃ x c, e = .returned (.slice x X.ps.length c) ∧ PlsAt w' x (ptsL X.ps) ∧ Below w.heap.size w w' ∧ ∀ g o, x = some ⟨g, o, none⟩ → w.heap.size ≤ g) := Lib.hid ((rising_any w C n _ (ptsL X.ps) hmC (fun t k _ _ hx => (hiff t k).1 hx) (by have := h.rise.2.2; omega)).mono fun e w' ⟨x, c, L, he, hp, hL, _, hb, hg⟩ => by
  have e1 : L = ptsL X.ps := risePl_ext hL.rise (rise_ptsL h.rise.1) fun y => by
   constructor
   ·intro hy
    obtain ⟨a, b⟩ := hL.small y hy
    exact (hiff y.1 y.2).1 ((hL.is y.1 y.2 a b).2 hy)
   ·intro hy
    obtain ⟨p, hm, e2⟩ := List.mem_map.1 hy
    have hsz := okP_sizes (h.rise.2.1 p hm)
    have a : y.1.size ≤ maxLen := by rw [← e2]; unfold maxLen; simp only; omega
    have b : y.2.size ≤ maxLen := by rw [← e2]; unfold maxLen; simp only; omega
    exact (hL.is y.1 y.2 a b).1 ((hiff y.1 y.2).2 hy)
  subst e1
  rw [hlen] at he
  exact ⟨x, c, he, hp, hb, hg⟩)
 have HST : Hid (∀ w1 x, Below w.heap.size w w1 → PlsAt w1 x (ptsL X.ps) → (∀ g o, x = some ⟨g, o, none⟩ → w.heap.size ≤ g) → AllAt w w1 C (.slice none 0 0) x X.ps 0) := Lib.hid fun w1 x hb hp hg => ⟨(OwnP.nil_ w).after hb, hp, fun gg e => by cases e⟩
 have HLK : Hid (∀ W, Below w.heap.size w W → ∀ j (hj : j < X.ps.length), (Instr.lookup 59 (.map (some C)) (.agg #[.string X.ps[j].table, .string X.ps[j].key]) false).run Tryz.prog W = .ok (.agg #[.bool true, .string X.ps[j].value]) W) := Lib.hid fun W hW j hj => by
  have hmem : X.ps[j] ∈ X.ps := List.getElem_mem hj
  have hsz := okP_sizes (h.rise.2.1 _ hmem)
  exact (hmC.below hW).look Tryz.underlying59 (zeroC W) _ _ (by unfold maxLen; omega) (by unfold maxLen; omega) (by rw [comF_getD, (look_mem h.rise.1).1 hmem]; rfl)
 have HC1 : Hid (∀ W, Below w.heap.size w W → W.cell? ⟨S, 1, none⟩ = some (.map (some C))) := Lib.hid fun W hW => (hW.cell (p := ⟨S, 1, none⟩) hM.lts.1).trans c1
 have HLN : Hid (X.ps.length ≤ 500) := Lib.hid h.rise.2.2
 clear h hM hmC hiff hlen
 go_enter Tryz.func20, Tryz.ntmps20
 go_wp2_with (first
  | (go_at_call 37; refine HLV.out.mono ?_; rintro e w1 ⟨rfl, rfl⟩)
  | (go_at_call 38; refine HRI.out.mono ?_; rintro e w2 ⟨x, c, rfl, hp2, hb2, hg2⟩; have H2 := Lib.hid (HST.out _ _ hb2 hp2 hg2); clear hp2 hb2 hg2))
 clear c1
 go_loopw [3, 15] (fun v i wr => ∃ j : Nat, i = .int .i64 j ∧ j ≤ X.ps.length ∧ Hid (AllAt w wr C v x X.ps j)) (fun _ i _ => X.ps.length - (intOf i).toNat)
 case atStart => exact ⟨0, rfl, Nat.zero_le _, H2⟩
 case round =>
  obtain ⟨j, rfl, hj, HR⟩ := hrel
  by_cases hlt : j < X.ps.length
  ·have hltp : j < (ptsL X.ps).length := by simpa [ptsL] using hlt
   obtain ⟨g, off, hx, hgl, c0, c1⟩ := HR.out.pls j hltp
   have hpt : (ptsL X.ps)[j] = (X.ps[j].table, X.ps[j].key) := by simp [ptsL]
   have hlk := fun W hW => HLK.out W hW j hlt
   have hbd := HR.out.own.below
   have htake : X.ps.take (j + 1) = X.ps.take j ++ [X.ps[j]] := by rw [List.take_add_one, List.getElem?_eq_getElem hlt]; rfl
   rw [hpt] at c0 c1
   obtain ⟨p, hp⟩ : ∃ p, X.ps[j] = p := ⟨_, rfl⟩
   rw [hp] at htake hlk c0 c1
   clear hpt hp hltp
   obtain ⟨t, k, vv⟩ := p
   simp only at htake hlk c0 c1
   have hlenj : (X.ps.take j).length = j := by rw [List.length_take]; omega
   subst hx
   have q0 : (0 : Int) ≤ j := by omega
   have q1 : (j : Int) < (X.ps.length : Int) := by omega
   have hw1 : IntKind.i64.wrap ((j : Int) + 1) = ((j + 1 : Nat) : Int) := by have := HLN.out; rw [IntWalk.i64_in _ (by omega)]; omega
   have HLT := Lib.hid hlt
   have HLJ := Lib.hid hlenj
   have HTK := Lib.hid htake
   clear hlt hlenj htake hgl
   obtain ⟨P, hP⟩ : ∃ P, wr.heap.size = P := ⟨_, rfl⟩
   have hnew := heap_alloc_new wr (Obj.cells #[.string t, .string k] 66)
   rw [hP] at hnew
   obtain ⟨w5, hw5⟩ : ∃ w5, wr.alloc (Obj.cells #[.string t, .string k] 66) = w5 := ⟨_, rfl⟩
   rw [hw5] at hnew
   have hb5 : Below wr.heap.size wr w5 := by rw [← hw5]; exact (Below.refl _ wr).alloc (Nat.le_refl _) _
   have HSA : Hid (∀ W, Below w.heap.size w W → W.heap[P]? = w5.heap[P]? → Below w.heap.size w W ∧ W.cell? ⟨P, 0, none⟩ = some (.string t) ∧ W.cell? ⟨P, 1, none⟩ = some (.string k) ∧ W.cell? ⟨S, 1, none⟩ = some (.map (some C))) := Lib.hid fun W hb he => by
    have a1 := he.trans hnew
    exact ⟨hb, cell_at a1 (k := 0) rfl, cell_at a1 (k := 1) rfl, HC1.out W hb⟩
   have HO5 : Hid (Below w.heap.size w w5.drew) := Lib.hid (hbd.trans (hb5.mono hbd.size)).drew
   have HO6 : Hid (∀ o, Below w.heap.size w (w5.drew.alloc o) ∧ (w5.drew.alloc o).heap[P]? = w5.heap[P]?) := Lib.hid fun o => ⟨HO5.out.alloc HO5.out.size o, heap_alloc_old _ _ (by show P < w5.heap.size; exact lt_of_heap hnew)⟩
   have HAP : Hid (∃ y cap w9, (Builtin.append_ #[35, 35] 35 #[u3, .slice (some ⟨w5.heap.size, 0, none⟩) 1 1]).run Tryz.prog (w5.drew.alloc (Obj.cells #[.string t, .string k, .string vv] 42)) = .ok (.slice (some ⟨y, 0, none⟩) (j + 1) cap) w9 ∧ AllAt w w9 C (.slice (some ⟨y, 0, none⟩) (j + 1) cap) (some ⟨g, off, none⟩) X.ps (j + 1) ∧ Below w.heap.size w w9 ∧ w9.heap[P]? = w5.heap[P]?) := Lib.hid (by
    have hbA : Below wr.heap.size wr (w5.drew.alloc (Obj.cells #[.string t, .string k, .string vv] 42)) := (hb5.drew).alloc hb5.drew.size _
    have ho := HR.out.own.after hbA
    have hpr : PrsAt (w5.drew.alloc (Obj.cells #[.string t, .string k, .string vv] 42)) (some ⟨w5.heap.size, 0, none⟩) [⟨t, k, vv⟩] := by
     have h3 := heap_alloc_new w5.drew (Obj.cells #[.string t, .string k, .string vv] 42)
     refine PrsAt.of_cells (lt_of_heap h3) fun i u hi => ?_
     rw [Nat.zero_add]
     refine cell_at h3 ?_
     rw [pFlat_one'] at hi
     unfold pCells at hi
     simpa using hi
    obtain ⟨y, cap, w9, hr, ho9, hg9, hy⟩ := append_one (c := 1) ho (by rw [HLJ.out]; have := HLN.out; omega) hpr 35
    rw [HLJ.out] at hr ho9
    refine ⟨y, cap, w9, hr, HR.out.came hbA HTK.out ho9 hg9 hy, ho9.below, ?_⟩
    rw [hg9.block P (by show P < (w5.drew.alloc _).heap.size; simp; have := lt_of_heap hnew; omega) (fun e => by
     have h7 := (HR.out.own.own.lt P e.symm).2
     omega)]
    exact heap_alloc_old _ _ (by show P < w5.heap.size; exact lt_of_heap hnew))
   obtain ⟨y, cap, w9, hap, hall, hb9, hP9⟩ := HAP.out
   have H9 := Lib.hid (And.intro hall (And.intro hb9 hP9))
   have hlk5 : ∀ W, Below w.heap.size w W → (Instr.lookup 59 (.map (some C)) (.agg #[.string t, .string k]) false).run Tryz.prog W = .ok (.agg #[.bool true, .string vv]) W := hlk
   have hfc := fun W => fieldC true vv W
   clear hlk hbd hall hb9 hP9 hnew hb5
   go_wp2
   go_region_held3 (fun W => Below w.heap.size w W ∧ W.cell? ⟨P, 0, none⟩ = some (.string t) ∧ W.cell? ⟨P, 1, none⟩ = some (.string k) ∧ W.cell? ⟨S, 1, none⟩ = some (.map (some C)))
    (first | exact HSA.out _ H9.out.2.1 H9.out.2.2 | exact HSA.out _ (HO6.out _).1 (HO6.out _).2 | exact HSA.out _ HO5.out rfl) (first | (refine step_append_run rfl _ _ _ rfl _ _ _ rfl rfl hap ?_; dsimp only) | fail)
   go_wp2
   go_roundw
   case rel => exact ⟨j + 1, rfl, HLT.out, Lib.hid H9.out.1⟩
   case measure => have := HLT.out; simp [intOf]; omega
  ·have e : j = X.ps.length := by omega
   subst e
   have q1 : ¬ (X.ps.length : Int) < (X.ps.length : Int) := by omega
   go_wp2
   go_ret
   refine ⟨_, rfl, ?_⟩
   have := HR.out.own
   rw [List.take_length] at this
   exact this
end Go.Proofs.YtlommddabccdeaaGreatDoor
