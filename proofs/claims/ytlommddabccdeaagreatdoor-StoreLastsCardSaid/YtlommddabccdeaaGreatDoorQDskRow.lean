/-
  DskSmall, DskRead, DskRow.
-/
import Derived.Test.YtlommddabccdeaaGreatDoorQDskKit
import Derived.Test.YtlommddabccdeaaGreatDoorQUpd
import Derived.Laws.ResultCell
import Derived.Test.YtlommddabccdeaaGreatDoorShelf
namespace Go.Proofs.YtlommddabccdeaaGreatDoor
open Go.ChangeShapes Go.WideShapes Go.ChangeAt Go.RowKit

theorem wpList_load_at {P : Program} {ops : Array Oper} {rest : List Oper} {o : Oper} {a : Act} {w : World} {Q : Exit → Act → World → Prop} (hgd : o.guard = none) (ty : TypeId) (x : Operand) (ho : o.op = .load ty x)
  (g off : Nat) (hx : a.eval x = .pointer (some ⟨g, off, none⟩)) (v : Value) (hr : (loadVar ty ⟨g, off, none⟩).run P w = .ok v w)
  (h : wpList P ops Q rest (a.put o.dst v) w) : wpList P ops Q (o :: rest) a w :=
 wpList_plain hgd fun _ hK => by
  unfold Oper.wp execOp
  simp only [ho, hx, Instr.loadAt, Instr.sureAddr, Sem.run_bind, Sem.run_pure, Result.andThen_ok, hr]
  exact hK _ _ h
theorem wpList_store_at {P : Program} {ops : Array Oper} {rest : List Oper} {o : Oper} {a : Act} {w w1 : World} {Q : Exit → Act → World → Prop} (hgd : o.guard = none) (ty : TypeId) (x y : Operand) (ho : o.op = .store ty x y)
  (g off : Nat) (hx : a.eval x = .pointer (some ⟨g, off, none⟩)) (v : Value) (hy : a.eval y = v) (hr : (storeVar ty ⟨g, off, none⟩ v).run P w = .ok () w1)
  (h : wpList P ops Q rest (a.put o.dst undef) w1) : wpList P ops Q (o :: rest) a w :=
 wpList_plain hgd fun _ hK => by
  unfold Oper.wp execOp
  simp only [ho, hx, hy, Instr.storeAt, Instr.sureAddr, Sem.run_bind, Sem.run_pure, Result.andThen_ok, hr]
  exact hK _ _ h

theorem dhas_any (w : World) (D : DskP) (d : DskV) (h : DskAt w D d) (n : Int) :
  Calls Tryz.prog 80 #[.pointer (some ⟨D.p, 0, none⟩), .int .i64 n] w fun e w' => e = .returned (.bool (decide (0 ≤ n) && decide (n < d.ws.length))) ∧ w = w' := by
 have c1 := cell_at h.obj (k := 1) rfl
 obtain ⟨p, gl, cl, gw, cw, vp⟩ := D
 generalize d.ws.length = B at *
 clear h
 by_cases h0 : 0 ≤ n
 ·go_enter Tryz.func80, Tryz.ntmps80
  go_wp2
  go_ret
  exact ⟨by simp, rfl⟩
 ·go_enter Tryz.func80, Tryz.ntmps80
  go_wp2
  go_ret
  exact ⟨by rw [decide_eq_false (by omega : ¬ 0 ≤ n)]; rfl, rfl⟩
theorem dsize_any (w : World) (D : DskP) (d : DskV) (h : DskAt w D d) :
  Calls Tryz.prog 110 #[.pointer (some ⟨D.p, 0, none⟩)] w fun e w' => e = .returned (.int .i64 d.ws.length) ∧ w = w' := by
 have c1 := cell_at h.obj (k := 1) rfl
 obtain ⟨p, gl, cl, gw, cw, vp⟩ := D
 generalize d.ws.length = B at *
 clear h
 go_enter Tryz.func110, Tryz.ntmps110
 go_wp2
 go_ret
 exact ⟨rfl, rfl⟩
theorem ddead_any (w : World) (D : DskP) (d : DskV) (h : DskAt w D d) :
  Calls Tryz.prog 101 #[.pointer (some ⟨D.p, 0, none⟩)] w fun e w' => e = .returned (.bool d.dead) ∧ w = w' := by
 have c5 := cell_at h.obj (k := 5) rfl
 obtain ⟨p, gl, cl, gw, cw, vp⟩ := D
 generalize d.dead = B at *
 clear h
 go_enter Tryz.func101, Tryz.ntmps101
 go_wp2
 go_ret
 exact ⟨rfl, rfl⟩
theorem DskAt.turn {w : World} {D : DskP} {d : DskV} (h : DskAt w D d) {w' : World} (hb : But D.p w w') {d' : DskV} (h1 : d'.ls = d.ls) (h2 : d'.ws = d.ws) (h3 : d'.ps = d.ps)
  (ho : w'.heap[D.p]? = some (.cells #[.slice (some ⟨D.gl, 0, none⟩) d.ls.length D.cl, .slice (some ⟨D.gw, 0, none⟩) d.ws.length D.cw, D.vp, .int .i64 d'.acts, .int .i64 (d'.armed : Int), .bool d'.dead] 71 (0, 0))) : DskAt w' D d' := by
 obtain ⟨cl, e1, _⟩ := h.rl
 obtain ⟨cw, e2, _⟩ := h.rw
 have n1 : D.gl ≠ D.p := apart_of e1 h.obj (by decide)
 have n2 : D.gw ≠ D.p := apart_of e2 h.obj (by decide)
 refine ⟨by rw [h1, h2]; exact ho, ?_, ?_, ?_, h.ne⟩
 ·rw [h1]; exact h.rl.kept (hb.2.2.2.2 _ h.rl.lt n1)
 ·rw [h2]; exact h.rw.kept (hb.2.2.2.2 _ h.rw.lt n2)
 ·rw [h3]
  refine h.rp.kept fun g hg => hb.2.2.2.2 _ (h.rp.lt hg) ?_
  rcases h.rp.shape with ⟨e, _⟩ | ⟨g', cap, cur, e, h5, _⟩
  ·rw [e] at hg; cases hg
  ·rw [e] at hg
   injection hg with hg
   subst hg
   exact apart_of h5 h.obj (by decide)
theorem darm_any (w : World) (D : DskP) (d : DskV) (h : DskAt w D d) (hd : d.dead = false) (n : Nat) (h1 : 1 ≤ n) :
  Calls Tryz.prog 14 #[.pointer (some ⟨D.p, 0, none⟩), .int .i64 n] w fun e w' => e = .returned (.int .i64 0) ∧ DskAt w' D { d with armed := n } ∧ But D.p w w' := by
 have HA := Lib.hid h
 have c4 := cell_at h.obj (k := 4) rfl
 have c5 := cell_at h.obj (k := 5) rfl
 have f4 := free_at h.obj (k := 4)
 have HO := Lib.hid h.obj
 rw [hd] at c5
 have q1 : ¬ (n : Int) < 1 := by omega
 have HD := Lib.hid hd
 clear h hd
 obtain ⟨p, gl, cl, gw, cw, vp⟩ := D
 simp only at *
 generalize (d.armed : Int) = B at c4
 go_enter Tryz.func14, Tryz.ntmps14
 go_wp2
 go_ret
 refine ⟨rfl, HA.out.turn ((But.refl p w).setCell 4 _) rfl rfl rfl ?_, (But.refl p w).setCell 4 _⟩
 rw [heap_set_at HO.out]
 rfl
theorem dact_any (w : World) (D : DskP) (d : DskV) (h : DskAt w D d) (hok : DskOk d) (hd : d.dead = false) :
  Calls Tryz.prog 98 #[.pointer (some ⟨D.p, 0, none⟩)] w fun e w' => e = .returned (.int .i64 d.says) ∧ DskAt w' D d.act ∧ But D.p w w' := by
 have HA := Lib.hid h
 have c3 := cell_at h.obj (k := 3) rfl
 have c4 := cell_at h.obj (k := 4) rfl
 have f3 := free_at h.obj (k := 3)
 have f4 := free_at h.obj (k := 4)
 have f5 := free_at h.obj (k := 5)
 have HO := Lib.hid h.obj
 have c5 := cell_at h.obj (k := 5) rfl
 have HD := Lib.hid hd
 have harm := hok.arm
 clear h hd hok
 obtain ⟨p, gl, cl, gw, cw, vp⟩ := D
 obtain ⟨ls, ws, ps, acts, armed, dead⟩ := d
 simp only at *
 obtain ⟨ac, hac⟩ : ∃ ac, IntKind.i64.wrap (acts + 1) = ac := ⟨_, rfl⟩
 have HAC := Lib.hid hac
 by_cases h0 : armed = 0
 ·subst h0
  go_enter Tryz.func98, Tryz.ntmps98
  go_wp2
  go_ret
  refine ⟨rfl, HA.out.turn ((But.refl p w).setCell 3 _) rfl rfl rfl ?_, (But.refl p w).setCell 3 _⟩
  rw [heap_set_at HO.out, HD.out, ← HAC.out]
  rfl
 ·obtain ⟨A, hA⟩ : ∃ A, (armed : Int) = A := ⟨_, rfl⟩
  obtain ⟨B, hB⟩ : ∃ B, ((armed - 1 : Nat) : Int) = B := ⟨_, rfl⟩
  have q1 : ¬ A = 0 := by omega
  have hw1 : IntKind.i64.wrap (A - 1) = B := by rw [IntWalk.i64_in _ (by omega)]; omega
  have HO3 := Lib.hid (fun u v => heap_set_at (k := 4) (heap_set_at (k := 3) HO.out u) v)
  have HB := Lib.hid hB
  have c4' : w.cell? ⟨p, 4, none⟩ = some (.int .i64 A) := by rw [← hA]; exact c4
  clear c4
  by_cases h1 : armed = 1
  ·have HE : Hid (armed = 1) := Lib.hid h1
   have q2 : ¬ B > 0 := by omega
   clear harm h0 h1 hA hB
   go_enter Tryz.func98, Tryz.ntmps98
   go_wp2
   go_ret
   refine ⟨by unfold DskV.says; rw [if_pos HE.out]; rfl, HA.out.turn ((((But.refl p w).setCell 3 _).setCell 4 _).setCell 5 _) rfl rfl rfl ?_, (((But.refl p w).setCell 3 _).setCell 4 _).setCell 5 _⟩
   rw [heap_set_at (HO3.out _ _), ← HB.out, ← HAC.out]
   simp [DskV.act, HE.out]
  ·have HE : Hid (armed ≠ 1) := Lib.hid h1
   have q2 : B > 0 := by omega
   clear harm h0 h1 hA hB
   go_enter Tryz.func98, Tryz.ntmps98
   go_wp2
   go_ret
   refine ⟨by unfold DskV.says; rw [if_neg HE.out]; rfl, HA.out.turn (((But.refl p w).setCell 3 _).setCell 4 _) rfl rfl rfl ?_, ((But.refl p w).setCell 3 _).setCell 4 _⟩
   rw [HO3.out _ _, ← HB.out, ← HAC.out, HD.out]
   simp [DskV.act, HE.out]
theorem row8_new (w : World) (b : List UInt8) (t : TypeId) : Row8 (w.alloc (.cells (b.map b8).toArray t)) w.heap.size b := fun j hj => by
 refine ⟨?_, free_at (heap_alloc_new w _)⟩
 have := src_new w b t j (b8 b[j]) (by simp [hj])
 rw [add_zero_at] at this
 exact this
theorem dtext_any (w : World) (b : List UInt8) (h64 : b.length = 64) :
  Calls Tryz.prog 81 #[bkV b] w fun e w' => e = .returned (str b) ∧ w' = w.alloc (.cells (b.map b8).toArray 83) := by
 have hc := ofBytes (P := Tryz.prog) 9 63 5 (w.alloc (.cells (b.map b8).toArray 83)) w.heap.size 64 64 b h64.symm Tryz.underlying9 Tryz.underlying63 Tryz.underlying5 (row8_new w b _)
 unfold bkV
 have HE : Hid (str b = .string ⟨b.toArray⟩) := Lib.hid rfl
 generalize (b.map b8).toArray = c at *
 generalize b.toArray = T at *
 clear h64
 go_enter Tryz.func81, Tryz.ntmps81
 go_wp2
 go_ret
 exact ⟨by rw [HE.out]; rfl, rfl⟩
end Go.Proofs.YtlommddabccdeaaGreatDoor

namespace Go.Proofs.YtlommddabccdeaaGreatDoor
open Go.ChangeShapes Go.WideShapes Go.ChangeAt Go.RowKit

theorem str_eq (b : List UInt8) : str b = .string ⟨b.toArray⟩ := rfl
theorem dread_any (w : World) (D : DskP) (d : DskV) (h : DskAt w D d) (hok : DskOk d) (hd : d.dead = false) (n : Nat) (b : List UInt8) (hb : d.ws[n]? = some b) :
  Calls Tryz.prog 54 #[.pointer (some ⟨D.p, 0, none⟩), .int .i64 n] w fun e w' => e = .returned (.tuple #[str b, .int .i64 0]) ∧ Below w.heap.size w w' := by
 have hn := (List.getElem?_eq_some_iff.1 hb).1
 have h64 : b.length = 64 := hok.w64 b (List.mem_of_getElem? hb)
 have hh := dhas_any w D d h n
 rw [decide_eq_true (by omega : (0 : Int) ≤ n), decide_eq_true (by omega : (n : Int) < d.ws.length)] at hh
 have hl := h.rw.load hb h64
 have c1 := cell_at h.obj (k := 1) rfl
 have c5 := cell_at h.obj (k := 5) rfl
 rw [hd] at c5
 have HH := Lib.hid hh
 have HT := Lib.hid (fun W => dtext_any W b h64)
 have q1 : (0 : Int) ≤ n := by omega
 have q2 : (n : Int) < d.ws.length := by omega
 have q3 : (n : Int).toNat = n := by omega
 clear h hok hd hb hh hn h64
 obtain ⟨p, gl, cl, gw, cw, vp⟩ := D
 simp only at *
 unfold bkV at HT hl
 generalize (b.map b8).toArray = c at *
 rw [str_eq]
 simp only [str_eq] at HT
 generalize b.toArray = T at *
 generalize d.ws.length = B at *
 go_enter Tryz.func54, Tryz.ntmps54
 go_wp2_with (first
  | (refine wpList_load_at rfl 83 _ rfl gw (n * 64) (by simp [Act.eval, Act.put]) (.agg c) hl ?_)
  | (go_at_call 80; refine HH.out.mono ?_; rintro e w2 ⟨rfl, rfl⟩)
  | (go_at_call 81; refine (HT.out _).mono ?_; rintro e w2 ⟨rfl, rfl⟩))
 go_ret2
 exact ⟨rfl, (Below.refl _ w).alloc (Nat.le_refl _) _⟩
def zBk : Array Value := Array.replicate 64 (.int .u8 0)
theorem zBk_size : zBk.size = 64 := by simp [zBk]
theorem zeroBk' (w : World) : (zeroValue 83).run Tryz.prog w = .ok (.agg zBk) w := zeroBk w
theorem run_loadVar_own {w : World} {g : Nat} {b : List UInt8} {f : Nat × Nat} (h : w.heap[g]? = some (.cells (b.map b8).toArray 83 f)) (h64 : b.length = 64) : (loadVar 83 ⟨g, 0, none⟩).run Tryz.prog w = .ok (bkV b) w :=
 run_loadVar_row w g _ _ _ f _ h Tryz.underlying83 rfl (by rw [sizeBk]; simp [h64])
theorem run_storeVar_own {w : World} {g : Nat} {old : Array Value} {b : List UInt8} (h : w.heap[g]? = some (.cells old 83 (0, 0))) (ho : old.size = 64) (h64 : b.length = 64) : (storeVar 83 ⟨g, 0, none⟩ (bkV b)).run Tryz.prog w = .ok () (w.setRow g (b.map b8).toArray) :=
 run_storeVar_row w g _ _ old _ h (by rw [sizeBk]; simp [h64]) (by rw [ho]; simp [h64]) (Array.all_eq_true_iff_forall_mem.2 fun v hv => one8 b v (by simpa using hv))
theorem below_setRow {B : Nat} {w w' : World} (h : Below B w w') (g : Nat) (c : Array Value) (hg : B ≤ g) : Below B w (w'.setRow g c) :=
 ⟨h.os, h.tape, h.output, by simpa [World.setRow] using h.size, fun k hk => by
  have hne : ¬ g = k := by omega
  simp only [World.setRow, Array.getElem?_modify, hne, if_false]
  exact h.block k hk⟩
set_option maxRecDepth 100000 in
theorem dblockOf_any (w : World) (s : ByteArray) (h64 : s.size = 64) :
  Calls Tryz.prog 97 #[.string s] w fun e w' => e = .returned (.tuple #[bkV s.data.toList, .bool true]) ∧ Below w.heap.size w w' := by
 have hz := zeroBk' w
 obtain ⟨cap, W1, hconv, hrow, hbel, hsz, hcap⟩ := toBytes (P := Tryz.prog) 9 63 5 (w.alloc (.cells zBk 83)) s Tryz.underlying9 Tryz.underlying63 Tryz.underlying5
 have hl64 : s.data.toList.length = 64 := by simpa using h64
 obtain ⟨g, hg⟩ : ∃ g, (w.alloc (.cells zBk 83)).heap.size = g := ⟨_, rfl⟩
 rw [hg] at hconv hrow hbel hsz
 have hgw : g = w.heap.size + 1 := by rw [← hg]; simp
 have hl : (loadVar 83 ⟨g, 0, none⟩).run Tryz.prog W1 = .ok (bkV s.data.toList) W1 := by
  refine run_loadVar_at W1 g 0 _ (s.data.toList.map b8) 64 5 (fun j v hv => ?_) Tryz.underlying83 (by rw [sizeBk, List.length_map, hl64])
  have hj : j < s.data.toList.length := by
   have := (List.getElem?_eq_some_iff.1 hv).1
   simpa using this
  rw [Nat.zero_add, (hrow j hj).1, ← hv, List.getElem?_map, List.getElem?_eq_getElem hj]
  rfl
 have h0 : W1.heap[w.heap.size]? = some (.cells zBk 83 (0, 0)) := by rw [hbel.block _ (by omega)]; exact heap_alloc_new w _
 have hst := run_storeVar_own h0 zBk_size hl64
 have hW2 : (W1.setRow w.heap.size (s.data.toList.map b8).toArray).heap[w.heap.size]? = some (.cells (s.data.toList.map b8).toArray 83 (0, 0)) := by
  simp [World.setRow, Array.getElem?_modify, h0]
 have hl2 := run_loadVar_own hW2 hl64
 have HB : Hid (Below w.heap.size w (W1.setRow w.heap.size (s.data.toList.map b8).toArray)) := Lib.hid (below_setRow (((Below.refl _ w).alloc (Nat.le_refl _) _).trans (hbel.mono (by omega))) _ _ (Nat.le_refl _))
 have q1 : ¬ (64 : Int) ≠ 64 := by decide
 have harr : ∀ W, (Instr.arrayAt 83 (.slice (some ⟨g, 0, none⟩) 64 cap)).run Tryz.prog W = .ok (.pointer (some ⟨g, 0, none⟩)) W := fun W => by
  simp [Instr.arrayAt, run_underlying Tryz.underlying83]
 generalize W1.setRow w.heap.size (s.data.toList.map b8).toArray = W2 at *
 generalize bkV s.data.toList = V at *
 have HZ := Lib.hid zBk_size
 generalize zBk = Z at *
 clear hrow hbel hsz hcap h0 hW2 hl64 hgw
 go_enter Tryz.func97, Tryz.ntmps97
 go_wp2_with (first
  | (refine wpList_load_at rfl 83 _ rfl g 0 (by simp [Act.eval]) V hl ?_)
  | (refine wpList_store_at rfl 83 _ _ rfl w.heap.size 0 rfl V rfl hst ?_))
 refine bodyPost_ret (v := .tuple #[V, .bool true]) ?_ rfl ?_
 ·rw [results_cell_tmp rfl]
  simp [asAddr, hl2]
 ·exact ⟨rfl, HB.out⟩
end Go.Proofs.YtlommddabccdeaaGreatDoor

namespace Go.Proofs.YtlommddabccdeaaGreatDoor
open Go.ChangeShapes Go.WideShapes Go.ChangeAt Go.RowKit

def toI (ps : List Nat) : List Int := ps.map Int.ofNat
theorem toI_len (ps : List Nat) : (toI ps).length = ps.length := by simp [toI]
theorem toI_get (ps : List Nat) (j : Nat) (h : j < ps.length) : (toI ps).getD j 0 = (ps[j] : Int) := by simp [toI, List.getD, h]
theorem heldN_cells {w : World} {g cap : Nat} {ps : List Nat} {n : Nat} (h : HeldN w (.slice (some ⟨g, 0, none⟩) n cap) ps) : ∀ j, j < (toI ps).length → w.cell? ⟨g, 0 + j, none⟩ = some (.int .i64 ((toI ps).getD j 0)) := fun j hj => by
 rw [toI_len] at hj
 rw [Nat.zero_add, h.cell j hj, toI_get ps j hj]
 rfl
theorem len_of {w : World} {a : Option Addr} {n c : Nat} {ps : List Nat} (h : HeldN w (.slice a n c) ps) : n = ps.length := by
 rcases h.shape with ⟨e, e2⟩ | ⟨g, cap, cur, e, _⟩
 ·injection e with _ e3 _; rw [e2, e3]; rfl
 ·injection e
theorem dindex_hit (w : World) (g n c : Nat) (ps : List Nat) (h : HeldN w (.slice (some ⟨g, 0, none⟩) n c) ps) (hn : ps.length ≤ 5000) (k : Nat) (hk : k < ps.length) (h0 : ∀ j (hj : j < k), ps[j]'(by omega) ≠ ps[k]) :
  Calls Tryz.prog 78 #[.slice (some ⟨g, 0, none⟩) n c, .int .i64 (ps[k] : Int)] w fun e w' => e = .returned (.int .i64 k) ∧ w' = w := by
 have hl := len_of h
 have hh := Any.slices_Index_int Tryz.lays108 g 0 n c (toI ps) (ps[k] : Int) w (by rw [toI_len]; omega) (by omega) (heldN_cells h)
 rw [Lib.idxOf_hit (toI ps) n k _ (by omega) (by rw [toI_len]; omega) (toI_get ps k hk) (fun j hj => by rw [toI_get ps j (by omega)]; have := h0 j hj; omega)] at hh
 exact hh
theorem dindex_miss (w : World) (v : Value) (ps : List Nat) (h : HeldN w v ps) (hn : ps.length ≤ 5000) (x : Nat) (h0 : x ∉ ps) :
  Calls Tryz.prog 78 #[v, .int .i64 (x : Int)] w fun e w' => e = .returned (.int .i64 (-1)) ∧ w' = w := by
 rcases h.shape with ⟨rfl, rfl⟩ | ⟨g, cap, cur, rfl, _⟩
 ·have hh := Any.slices_Index_int_empty Tryz.lays108 none 0 (x : Int) w
  exact hh
 ·have hh := Any.slices_Index_int Tryz.lays108 g 0 ps.length cap (toI ps) (x : Int) w (by rw [toI_len]; omega) (by omega) (heldN_cells h)
  rw [Lib.idxOf_miss (toI ps) ps.length _ (fun j hj => by
   rw [toI_get ps j hj]
   intro e
   have : ps[j] = x := by omega
   exact h0 (this ▸ List.getElem_mem hj))] at hh
  exact hh
theorem but_rowPut {α : Type} [Inhabited α] (enc : α → Value) (w : World) (q P off : Nat) (d : Array α) : But P w (Go.Sort.putRow enc (Go.Sort.ahead w q) P off d) := by
 refine ⟨rfl, rfl, rfl, by simp, fun k hk hne => ?_⟩
 simp only [Go.Sort.putRow, Go.Sort.mapBlock, Go.Sort.heap_ahead]
 rw [Array.getElem?_modify, if_neg (fun e => hne e.symm)]
theorem ddelete1_any (w : World) (g c : Nat) (ps : List Nat) (h : HeldN w (.slice (some ⟨g, 0, none⟩) ps.length c) ps) (i : Nat) (hi : i < ps.length) :
  Calls Tryz.prog 79 #[.slice (some ⟨g, 0, none⟩) ps.length c, .int .i64 i, .int .i64 ((i : Int) + 1)] w fun e w' => e = .returned (.slice (some ⟨g, 0, none⟩) (ps.length - 1) c) ∧ But g w w' ∧ HeldN w' (.slice (some ⟨g, 0, none⟩) (ps.length - 1) c) (ps.eraseIdx i) := by
 rcases h.shape with ⟨e, _⟩ | ⟨g', cap, cur, e, h5, h6, h7, h8, h9⟩
 ·cases e
 injection e with e1 e2 e3
 injection e1 with e1
 injection e1 with e1 _ _
 subst e1 e3
 have hH : Go.Sort.Holds (Value.int .i64) w g 0 (toI ps).toArray := fun j hj => by
  have hj2 : j < ps.length := by simpa [toI] using hj
  refine ⟨?_, free_at h5⟩
  rw [Nat.zero_add, h.cell j hj2, getElem!_pos _ j hj]
  simp [toI, nI]
 have hh := Any.slices_Delete_int Tryz.laysNm223 g 0 c i (i + 1) (toI ps) w hH (by rw [toI_len]; exact h6) (by unfold maxLen at h7; omega) (by omega) (by rw [toI_len]; omega)
 change Calls Tryz.prog 79 _ _ _ at hh
 have e1 : ((i + 1 : Nat) : Int) = (i : Int) + 1 := by omega
 rw [e1, toI_len, show i + 1 - i = 1 by omega] at hh
 refine hh.mono fun e w' ⟨he, q, hw⟩ => ⟨he, by rw [hw]; exact but_rowPut _ _ _ _ _ _, ?_⟩
 have hc : ∃ cur', w'.heap[g]? = some (.cells cur' 3 (0, 0)) ∧ cur'.size = c ∧ ∀ k (hk : k < (ps.eraseIdx i).length), cur'[k]? = some (nI (ps.eraseIdx i)[k]) := by
  have hwg : ∃ cur', w'.heap[g]? = some (.cells cur' 3 (0, 0)) ∧ cur'.size = c := by
   rw [hw]
   simp only [Go.Sort.putRow, Go.Sort.mapBlock, Go.Sort.heap_ahead, Array.getElem?_modify, if_true, h5, Option.map_some]
   exact ⟨_, rfl, by simp [Go.Sort.putCells, h8]⟩
  obtain ⟨cur', hw1, hw2⟩ := hwg
  refine ⟨cur', hw1, hw2, fun k hk => ?_⟩
  have hh2 : Go.Sort.Holds (Value.int .i64) w' g 0 ((toI ps).take i ++ (toI ps).drop (i + 1) ++ List.replicate 1 0).toArray := by
   rw [hw]
   refine Go.Sort.holds_putRow _ _ g 0 (toI ps).toArray _ (Go.Sort.holds_ahead _ w q g 0 _ hH) ?_
   simp [toI]
   omega
  have hl : (ps.eraseIdx i).length = ps.length - 1 := List.length_eraseIdx_of_lt hi
  have hk3 : k < ((toI ps).take i ++ (toI ps).drop (i + 1) ++ List.replicate 1 (0 : Int)).toArray.size := by simp [toI]; omega
  obtain ⟨a, _⟩ := hh2 k hk3
  rw [Nat.zero_add, World.cell?, hw1, getElem!_pos _ k hk3] at a
  have a2 : cur'[k]? = some (Value.int .i64 ((toI ps).take i ++ (toI ps).drop (i + 1) ++ List.replicate 1 (0 : Int)).toArray[k]) := a
  rw [a2]
  have e4 : (toI ps).take i ++ (toI ps).drop (i + 1) = toI (ps.eraseIdx i) := by simp [toI, List.eraseIdx_eq_take_drop_succ, List.map_take, List.map_drop]
  have hk4 : k < (toI (ps.eraseIdx i)).length := by rw [toI_len]; exact hk
  simp only [e4, List.getElem_toArray]
  rw [List.getElem_append_left hk4]
  simp [toI, nI]
 obtain ⟨cur', hw1, hw2, hw3⟩ := hc
 have hl : (ps.eraseIdx i).length = ps.length - 1 := List.length_eraseIdx_of_lt hi
 rw [← hl]
 refine ⟨by simp, .inr ⟨g, c, cur', rfl, Nat.zero_le _, hw1, by omega, h7, by rw [hw2]; simp, ?_⟩⟩
 apply List.ext_getElem?
 intro k
 by_cases hk : k < (ps.eraseIdx i).length
 ·rw [List.getElem?_take_of_lt (by omega), List.getElem?_map, List.getElem?_eq_getElem hk]
  have := hw3 k hk
  simpa using this
 ·rw [List.getElem?_eq_none (by simp; omega), List.getElem?_eq_none (by simp; omega)]
theorem first_of {x : Nat} : ∀ {ps : List Nat}, x ∈ ps → ∃ k, ∃ hk : k < ps.length, ps[k] = x ∧ (∀ j (hj : j < k), ps[j]'(by omega) ≠ x) ∧ ps.erase x = ps.eraseIdx k
 | [], h => by cases h
 | a :: r, h => by
  by_cases e : a = x
  ·subst e
   exact ⟨0, by simp, rfl, fun j hj => absurd hj (Nat.not_lt_zero _), by simp⟩
  ·have hr : x ∈ r := by
    rcases List.mem_cons.1 h with e2 | e2
    ·exact absurd e2.symm e
    ·exact e2
   obtain ⟨k, hk, h1, h2, h3⟩ := first_of hr
   refine ⟨k + 1, by simp; exact hk, by simpa using h1, fun j hj => ?_, ?_⟩
   ·match j, hj with
    | 0, _ => simpa using e
    | j + 1, hj => simpa using h2 j (by omega)
   ·rw [List.erase_cons_tail (by simpa using e), h3]; rfl
theorem dtaken_any (w : World) (v : Value) (ps : List Nat) (h : HeldN w v ps) (hn : ps.length ≤ 5000) (x : Nat) :
  Calls Tryz.prog 53 #[v, .int .i64 (x : Int)] w fun e w' => ∃ v', e = .returned (.tuple #[v', .bool (decide (x ∈ ps))]) ∧ HeldN w' v' (ps.erase x) ∧ v'.ownBlock = v.ownBlock ∧ Upd v.ownBlock.toList w w' := by
 by_cases hx : x ∈ ps
 ·obtain ⟨k, hk, h1, h2, h3⟩ := first_of hx
  rcases h.shape with ⟨rfl, rfl⟩ | ⟨g, c, cur, rfl, h5, h6⟩
  ·cases hx
  clear h6
  have hi := dindex_hit w g ps.length c ps h hn k hk (fun j hj => by rw [h1]; exact h2 j hj)
  rw [h1] at hi
  have hd := ddelete1_any w g c ps h k hk
  rw [← h3] at hd
  rw [decide_eq_true hx]
  have HI := Lib.hid hi
  have HD := Lib.hid hd
  have q1 : ¬ (k : Int) < 0 := by omega
  have hw : IntKind.i64.wrap ((k : Int) + 1) = (k : Int) + 1 := IntWalk.i64_in _ (by omega)
  clear h h1 h2 h3 hi hd hx h5 hk hn
  generalize ps.length = n at *
  generalize ps.erase x = qs at *
  go_enter Tryz.func53, Tryz.ntmps53
  go_wp2_with (first
   | (go_at_call 78; refine HI.out.mono ?_; rintro e w2 ⟨rfl, rfl⟩)
   | (go_at_call 79; refine HD.out.mono ?_; rintro e w2 ⟨rfl, hb2, hh2⟩))
  go_ret2
  exact ⟨_, rfl, hh2, rfl, Upd.of_but hb2⟩
 ·have hi := dindex_miss w v ps h hn x hx
  have he : ps.erase x = ps := List.erase_of_not_mem hx
  rw [decide_eq_false hx, he]
  have HI := Lib.hid hi
  have HH := Lib.hid h
  have q1 : (-1 : Int) < 0 := by decide
  obtain ⟨a, n, c, rfl⟩ : ∃ a n c, v = .slice a n c := by
   rcases h.shape with ⟨rfl, rfl⟩ | ⟨g, c, cur, rfl, h5, _⟩
   ·exact ⟨_, _, _, rfl⟩
   ·exact ⟨_, _, _, rfl⟩
  clear h hi he hx hn
  go_enter Tryz.func53, Tryz.ntmps53
  go_wp2_with (first
   | (go_at_call 78; refine HI.out.mono ?_; rintro e w2 ⟨rfl, rfl⟩))
  go_ret2
  exact ⟨_, rfl, HH.out, rfl, Upd.refl _ _⟩
theorem dclone_any (w : World) (v : Value) (ps : List Nat) (h : HeldN w v ps) (hn : ps.length ≤ 5000) :
  Calls Tryz.prog 31 #[v] w fun e w' => ∃ v', e = .returned v' ∧ HeldN w' v' ps ∧ (∀ g, v'.ownBlock = some g → w.heap.size ≤ g) ∧ Below w.heap.size w w' := by
 rcases h.shape with ⟨rfl, rfl⟩ | ⟨g, c, cur, rfl, h5, _⟩
 ·have := Any.slices_Clone_int_nil Tryz.laysNm215 0 0 w
  change Calls Tryz.prog 31 _ _ _ at this
  refine this.mono fun e w' ⟨h1, h2⟩ => ⟨_, h1, HeldN.nil_ _, (fun g hg => by cases hg), ?_⟩
  rw [h2]; exact Below.refl _ _
 ·have hh := Any.slices_Clone_int Tryz.laysNm215 g 0 ps.length c (toI ps) w (by rw [toI_len]; omega) (by omega) (heldN_cells h)
  change Calls Tryz.prog 31 _ _ _ at hh
  refine hh.mono fun e w' ⟨v', h1, h2, h3, h4⟩ => ⟨v', h1, ?_, fun g hg => (h2.lt g hg).1, h4⟩
  have e1 : ((toI ps).take ps.length).map (Value.int .i64) = ps.map nI := by
   rw [List.take_of_length_le (by rw [toI_len]; omega)]
   simp [toI]
   intro a _
   rfl
  rw [e1] at h2
  obtain ⟨h6, h7⟩ := h2
  refine ⟨h6, ?_⟩
  rcases h7 with h8 | ⟨g, cap, cur, h8, _, h9⟩
  ·exact .inl h8
  ·exact .inr ⟨g, cap, cur, h8, Nat.zero_le _, h9⟩
def OutOf : List Nat → List Nat → Prop
 | _, [] => True
 | ps, k :: r => k ∈ ps ∧ OutOf (ps.erase k) r
theorem outOf_at : ∀ (ks ps : List Nat) (t : Nat) (h : t < ks.length), OutOf ps ks → ks[t] ∈ (ks.take t).foldl List.erase ps
 | [], _, _, h, _ => by cases h
 | k :: r, ps, 0, _, h => h.1
 | k :: r, ps, t + 1, h, ho => by
  simp only [List.take_succ_cons, List.foldl_cons, List.getElem_cons_succ]
  exact outOf_at r (ps.erase k) t (by simpa using h) ho.2
theorem fold_len (ks : List Nat) : ∀ ps : List Nat, (ks.foldl List.erase ps).length ≤ ps.length := by
 induction ks with
 | nil => intro ps; exact Nat.le_refl _
 | cons k r ih => intro ps; exact Nat.le_trans (ih _) List.length_erase_le
theorem fold_take (ks ps : List Nat) (t : Nat) (h : t < ks.length) : (ks.take (t + 1)).foldl List.erase ps = ((ks.take t).foldl List.erase ps).erase ks[t] := by
 rw [List.take_succ_eq_append_getElem h, List.foldl_append]
 rfl
set_option maxHeartbeats 800000 in
theorem dwithout_any (w : World) (v kv : Value) (ps ks : List Nat) (h : HeldN w v ps) (hk : HeldN w kv ks) (hn : ps.length ≤ 5000) (hkn : ks.length ≤ 5000) (ho : OutOf ps ks) :
  Calls Tryz.prog 32 #[v, kv] w fun e w' => ∃ v', e = .returned (.tuple #[v', .bool true]) ∧ HeldN w' v' (ks.foldl List.erase ps) ∧ (∀ g, v'.ownBlock = some g → w.heap.size ≤ g) ∧ Below w.heap.size w w' := by
 have HC := Lib.hid (dclone_any w v ps h hn)
 have HK := Lib.hid hk
 have HN := Lib.hid hn
 have HO := Lib.hid (outOf_at ks ps)
 have HO2 := Lib.hid ho
 obtain ⟨ka, kc, rfl⟩ : ∃ ka kc, kv = .slice ka ks.length kc := by
  rcases hk.shape with ⟨rfl, rfl⟩ | ⟨g, c, cur, rfl, h5, _⟩
  ·exact ⟨_, _, rfl⟩
  ·exact ⟨_, _, rfl⟩
 obtain ⟨n, hnl⟩ : ∃ n, ks.length = n := ⟨_, rfl⟩
 have HNL := Lib.hid hnl
 rw [hnl]
 rw [hnl] at hkn
 clear h hk hn ho hnl
 go_enter Tryz.func32, Tryz.ntmps32
 go_wp2_with (first
  | (go_at_call 31; refine HC.out.mono ?_; rintro e w2 ⟨v2, rfl, hh2, hg2, hb2⟩))
 have HA : Hid (HeldN w2 v2 ps ∧ (∀ g, v2.ownBlock = some g → w.heap.size ≤ g) ∧ Below w.heap.size w w2) := Lib.hid ⟨hh2, hg2, hb2⟩
 clear hh2 hg2 hb2 HC
 go_loopw [6, 7, 9, 14] (fun l _ _ i wr => ∃ t : Nat, i = .int .i64 t ∧ t ≤ n ∧ Hid (HeldN wr l ((ks.take t).foldl List.erase ps) ∧ (∀ g, l.ownBlock = some g → w.heap.size ≤ g) ∧ Below w.heap.size w wr)) (fun _ _ _ i _ => n - (intOf i).toNat)
 case atStart => exact ⟨0, rfl, by omega, by rw [List.take_zero]; exact HA⟩
 case round =>
  obtain ⟨t, rfl, ht, HR⟩ := hrel
  by_cases hlt : t < n
  ·have hk2 : t < ks.length := by rw [HNL.out]; exact hlt
   have q1 : (0 : Int) ≤ t := by omega
   have q2 : (t : Int) < n := by omega
   obtain ⟨b, hb⟩ : ∃ b, ka = some (⟨b, 0, none⟩ : Addr) := by
    rcases HK.out.shape with ⟨e, e2⟩ | ⟨g, c, cur, e, _⟩
    ·rw [e2] at hk2; cases hk2
    ·injection e with e _ _; exact ⟨g, e⟩
   subst hb
   have hlb : b < w.heap.size := HK.out.lt rfl
   have hc := (HR.out.2.2.cell (p := ⟨b, t, none⟩) hlb).trans (HK.out.cell t hk2)
   have hin := HO.out t hk2 HO2.out
   have hft := fold_take ks ps t hk2
   have HT := Lib.hid (dtaken_any wr _ _ HR.out.1 (Nat.le_trans (fold_len _ _) HN.out) ks[t])
   rw [decide_eq_true hin, ← hft] at HT
   unfold nI at hc
   generalize ks[t] = x at *
   clear hin hft hlb hk2
   go_wp2_with (first
    | (go_at_call 53; refine HT.out.mono ?_; rintro e w3 ⟨v3, rfl, hh3, ho3, hu3⟩))
   have HE : Hid (HeldN w3 v3 ((ks.take (t + 1)).foldl List.erase ps) ∧ (∀ g, v3.ownBlock = some g → w.heap.size ≤ g) ∧ Below w.heap.size w w3) := Lib.hid ⟨hh3, by rw [ho3]; exact HR.out.2.1, HR.out.2.2.trans (hu3.below (fun x hx => HR.out.2.1 x (by simpa using hx)) HR.out.2.2.size)⟩
   clear hh3 ho3 hu3
   go_roundw
   case rel => exact ⟨t + 1, by go_num, by omega, HE⟩
   case measure => simp [intOf]; omega
  ·have q2 : ¬ (t : Int) < n := by omega
   go_wp2
   go_ret2
   refine ⟨_, rfl, ?_, HR.out.2.1, HR.out.2.2⟩
   have := HR.out.1
   rw [List.take_of_length_le (by rw [HNL.out]; omega)] at this
   exact this
end Go.Proofs.YtlommddabccdeaaGreatDoor
