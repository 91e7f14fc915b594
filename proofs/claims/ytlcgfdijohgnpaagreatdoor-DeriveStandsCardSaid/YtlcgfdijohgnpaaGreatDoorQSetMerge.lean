/-
  SetMerge.
-/
import Derived.Test.YtlcgfdijohgnpaaGreatDoorQSetOwn
import Derived.Test.YtlcgfdijohgnpaaGreatDoorQKeyRefAll
import Derived.Test.YtlcgfdijohgnpaaGreatDoorQValueRefParse
import Derived.Deep.RegionLaw
import Derived.Deep.RegionHeld3
import Derived.Test.YtlcgfdijohgnpaaGreatDoorQLayMerge
namespace Go.Proofs.YtlcgfdijohgnpaaGreatDoor
open Go.ChangeShapes Go.WideShapes Go.ChangeAt Go.RowKit

theorem SetsAt.pushT {B : Nat} {w w' : World} {v v' : Value} {ms : List SetM} {m : SetM} (h : SetsAt B w v ms) (hx : TxAt w m.a m.x.val.words) (hc : m.x.val.words.length ≤ m.c) (hb : ∀ b off, 0 < m.x.val.words.length → m.a = some ⟨b, off, none⟩ → v.ownBlock ≠ some b ∧ b < w.heap.size)
  (hr : w'.ownsRow B 39 6 v' (ms.length + 1) (sFlat ms ++ sCells m)) (hg : w.grownBy w' v.ownBlock) (hi : ∀ g, v'.ownBlock = some g → v.ownBlock = some g ∨ w.heap.size ≤ g) : SetsAt B w' v' (ms ++ [m]) := by
 refine ⟨by rw [List.length_append, sFlat_snoc]; exact hr, fun m0 hm => ?_⟩
 rcases List.mem_append.1 hm with hm | hm
 ·have h0 := h.wds m0 hm
  refine ⟨h0.grownTx hg, h0.2.1, fun b off hpos e hq => ?_⟩
  obtain ⟨b', off', e', hl⟩ := h0.lt hpos
  obtain ⟨rfl, rfl⟩ : b = b' ∧ off = off' := by simpa using e.symm.trans e'
  rcases hi b hq with h1 | h1
  ·exact h0.2.2 b off hpos e h1
  ·omega
 ·rw [List.mem_singleton.1 hm]
  refine ⟨fun k hk => ?_, hc, fun b off hpos e hq => ?_⟩
  ·obtain ⟨b, off, e, hl, hcell⟩ := hx k hk
   exact ⟨b, off, e, Nat.lt_of_lt_of_le hl hg.size, (cell_blkT (hg.block b hl (fun e' => (hb b off (by omega) e).1 e'.symm)) (off + k)).trans hcell⟩
  ·obtain ⟨h1, h2⟩ := hb b off hpos e
   rcases hi b hq with h3 | h3
   ·exact h1 h3
   ·omega
theorem SetsAt.set {B : Nat} {w : World} {v : Value} {ms : List SetM} (h : SetsAt B w v ms) {X : Nat} (hX : v.ownBlock ≠ some X) (hw : ∀ m ∈ ms, ∀ b off, 0 < m.x.val.words.length → m.a = some ⟨b, off, none⟩ → b ≠ X) (i : Nat) (u : Value) : SetsAt B (w.setCell ⟨X, i, none⟩ u) v ms :=
 ⟨h.row.kept (setGrown w X i u) (.inr hX), fun m hm => ⟨fun k hk => by
  obtain ⟨b, off, e, hl, hcell⟩ := (h.wds m hm).1 k hk
  exact ⟨b, off, e, by simpa using hl, (World.cell?_setCell_other _ _ _ _ (fun e2 => hw m hm b off (by omega) e (by injection e2 with e3 _ _; exact e3.symm))).trans hcell⟩, (h.wds m hm).2.1, (h.wds m hm).2.2⟩⟩
structure MgAt (w wr : World) (X n ck : Nat) (yk : Option Addr) (xs : List KeyV) (lv : Value) (ms : List SetM) : Prop where
 obj : SObj wr X (.slice yk n ck) lv
 keys : Keys wr yk xs
 sets : SetsAt w.heap.size wr lv ms
 wds : ∀ m ∈ ms, ∀ b off, 0 < m.x.val.words.length → m.a = some ⟨b, off, none⟩ → X < b
 below : Below w.heap.size w wr
 new : w.heap.size ≤ X
 free : ∀ i, wr.frozen? ⟨X, i, none⟩ = false
 kX : ∀ b off, 0 < xs.length → yk = some ⟨b, off, none⟩ → b ≠ X
 kne : ∀ b off, 0 < xs.length → yk = some ⟨b, off, none⟩ → lv.ownBlock ≠ some b
theorem frozen_below {w w' : World} {X i : Nat} (hX : X < w.heap.size) (hb : Below w.heap.size w w') : w'.frozen? ⟨X, i, none⟩ = w.frozen? ⟨X, i, none⟩ := hb.frozen (p := ⟨X, i, none⟩) hX
theorem SObj.lt {w : World} {X : Nat} {kv lv : Value} (h : SObj w X kv lv) : X < w.heap.size := by obtain ⟨fr, h⟩ := h; exact heap_ltF h
theorem MgAt.to {w wr wr' : World} {X n ck : Nat} {yk : Option Addr} {xs : List KeyV} {lv : Value} {ms : List SetM} (h : MgAt w wr X n ck yk xs lv ms) (hb : Below wr.heap.size wr wr') : MgAt w wr' X n ck yk xs lv ms :=
 ⟨h.obj.below hb, h.keys.below hb, h.sets.below hb, h.wds, h.below.trans (hb.mono h.below.size), h.new, fun i => (frozen_below h.obj.lt hb).trans (h.free i), h.kX, h.kne⟩
theorem MgAt.push {w W w2 : World} {X n ck : Nat} {yk : Option Addr} {xs : List KeyV} {lv lv' : Value} {ms : List SetM} {m : SetM} (h : MgAt w W X n ck yk xs lv ms) (hx : TxAt W m.a m.x.val.words) (hc : m.x.val.words.length ≤ m.c) (hb : ∀ b off, 0 < m.x.val.words.length → m.a = some ⟨b, off, none⟩ → lv.ownBlock ≠ some b ∧ X < b)
  (hr : w2.ownsRow w.heap.size 39 6 lv' (ms.length + 1) (sFlat ms ++ sCells m)) (hg : W.grownBy w2 lv.ownBlock) (hi : ∀ g, lv'.ownBlock = some g → lv.ownBlock = some g ∨ W.heap.size ≤ g) :
  (∃ u, w2.cell? ⟨X, 1, none⟩ = some u) ∧ w2.frozen? ⟨X, 1, none⟩ = false ∧ MgAt w (w2.setCell ⟨X, 1, none⟩ lv') X n ck yk xs lv' (ms ++ [m]) := by
 have hXl := h.obj.lt
 have hlX : lv.ownBlock ≠ some X := by
  obtain ⟨fr, ho⟩ := h.obj
  exact own_ne h.sets.row ho (by decide)
 have hX2 : w2.heap[X]? = W.heap[X]? := hg.block X hXl (fun e => hlX e.symm)
 have hlX' : lv'.ownBlock ≠ some X := fun e => by
  rcases hi X e with h1 | h1
  ·exact hlX h1
  ·omega
 have hs2 := h.sets.pushT hx hc (fun b off hp e => ⟨(hb b off hp e).1, by
  obtain ⟨b', off', e', hl, _⟩ := hx 0 hp
  obtain ⟨rfl, rfl⟩ : b = b' ∧ off = off' := by simpa using e.symm.trans e'
  exact hl⟩) hr hg hi
 have hbe : Below w.heap.size w w2 := h.below.grown hg h.below.size (fun k hk => (h.sets.row.lt k hk).1)
 have hw : ∀ m0 ∈ ms ++ [m], ∀ b off, 0 < m0.x.val.words.length → m0.a = some ⟨b, off, none⟩ → X < b := fun m0 hm b off hp e => by
  rcases List.mem_append.1 hm with hm | hm
  ·exact h.wds m0 hm b off hp e
  ·rw [List.mem_singleton.1 hm] at hp e
   exact (hb b off hp e).2
 have hk2 : Keys (w2.setCell ⟨X, 1, none⟩ lv') yk xs := fun i hi0 => by
  obtain ⟨b, e, hl, c0, c1, c2, c3, c4, c5⟩ := h.keys i hi0
  have hne := h.kX b 0 (by omega) e
  have hbl : (w2.setCell ⟨X, 1, none⟩ lv').heap[b]? = W.heap[b]? := by
   rw [Below.heap_setCell _ _ _ _ hne]
   exact hg.block b hl (fun e2 => h.kne b 0 (by omega) e e2.symm)
  exact ⟨b, e, by rw [World.size_setCell]; exact Nat.lt_of_lt_of_le hl hg.size, (cell_blkT hbl _).trans c0, (cell_blkT hbl _).trans c1, (cell_blkT hbl _).trans c2, (cell_blkT hbl _).trans c3, (cell_blkT hbl _).trans c4, (cell_blkT hbl _).trans c5⟩
 refine ⟨?_, ?_, ⟨?_, hk2, hs2.set hlX' (fun m0 hm b off hp e => by have := hw m0 hm b off hp e; omega) 1 lv', hw, hbe.setCell (p := ⟨X, 1, none⟩) h.new _, h.new, ?_, h.kX, fun b off hp e e2 => ?_⟩⟩
 ·obtain ⟨fr, ho⟩ := h.obj
  exact ⟨_, (cell_blkT hX2 1).trans (cell_of_row W X 1 _ _ _ ho)⟩
 ·have := h.free 1
  unfold World.frozen? at this ⊢
  rw [hX2]; exact this
 ·obtain ⟨fr, ho⟩ := h.obj
  exact ⟨fr, by simp [World.setCell, Array.getElem?_modify, hX2, ho]⟩
 ·intro i
  rw [World.frozen?_setCell]
  have := h.free i
  unfold World.frozen? at this ⊢
  rw [hX2]; exact this
 ·rcases hi b e2 with h1 | h1
  ·exact h.kne b off hp e h1
  ·obtain ⟨b', e', hl, _⟩ := h.keys 0 hp
   obtain ⟨rfl, _⟩ : b = b' ∧ off = 0 := by simpa using e.symm.trans e'
   omega
structure MV (w0 w : World) (A : Nat) (x : Option Addr) (c : Nat) (p : Val) : Prop where
 below : Below w0.heap.size w0 w
 box : Box4 w A (.int .i64 p.kind) (.int .i64 p.int) (.string p.text) (.slice x p.words.length c)
 txt : TxAt w x p.words
 cap : p.words.length ≤ c
 yb : ∀ b off, x = some ⟨b, off, none⟩ → w0.heap.size ≤ b
theorem below_set4M {B : Nat} {w W : World} (h : Below B w W) {A : Nat} (hA : B ≤ A) (x y z u : Value) : Below B w (Go.Proofs.YtlcgfdijohgnpaaGreatDoor.set4 W A x y z u) :=
 (((h.setCell (p := ⟨A, 0, none⟩) hA x).setCell (p := ⟨A, 1, none⟩) hA y).setCell (p := ⟨A, 2, none⟩) hA z).setCell (p := ⟨A, 3, none⟩) hA u
theorem set4_cellM {w : World} {A K : Nat} (h : A ≠ K) (k : Nat) (x y z u : Value) : ((((w.setCell ⟨A, 0, none⟩ x).setCell ⟨A, 1, none⟩ y).setCell ⟨A, 2, none⟩ z).setCell ⟨A, 3, none⟩ u).cell? ⟨K, k, none⟩ = w.cell? ⟨K, k, none⟩ := by
 have ne : ∀ i, (⟨A, i, none⟩ : Addr) ≠ ⟨K, k, none⟩ := fun i e => h (congrArg Addr.block e)
 rw [World.cell?_setCell_other _ _ _ _ (ne _), World.cell?_setCell_other _ _ _ _ (ne _), World.cell?_setCell_other _ _ _ _ (ne _), World.cell?_setCell_other _ _ _ _ (ne _)]
theorem MV.one {w0 w2 : World} {E : Nat} {y : Option Addr} {d : Nat} {p : Val} {b0 b1 b2 b3 : Value} (hb : Below w0.heap.size w0 w2) (hge : w0.heap.size ≤ E) (hz : Box4 w2 E b0 b1 b2 b3) (ht : TxAt w2 y p.words) (hd : p.words.length ≤ d) (hy : ∀ b off, y = some ⟨b, off, none⟩ → w0.heap.size ≤ b ∧ b ≠ E) :
  MV w0 (Go.Proofs.YtlcgfdijohgnpaaGreatDoor.set4 w2 E (.int .i64 p.kind) (.int .i64 p.int) (.string p.text) (.slice y p.words.length d)) E y d p :=
 ⟨below_set4M hb hge _ _ _ _, hz.set4 _ _ _ _, fun k hk => by
  obtain ⟨b, off, e, hl, hc⟩ := ht k hk
  refine ⟨b, off, e, by simpa [Go.Proofs.YtlcgfdijohgnpaaGreatDoor.set4] using hl, ?_⟩
  unfold Go.Proofs.YtlcgfdijohgnpaaGreatDoor.set4
  rw [set4_cellM (fun e2 => (hy b off e).2 e2.symm)]; exact hc, hd, fun b off e => (hy b off e).1⟩
theorem MV.two {w0 w2 : World} {y : Option Addr} {d : Nat} {p : Val} {t : TypeId} (hb : Below w0.heap.size w0 w2) (ht : TxAt w2 y p.words) (hd : p.words.length ≤ d) (hy : ∀ b off, y = some ⟨b, off, none⟩ → w0.heap.size ≤ b) :
  MV w0 (w2.alloc (Obj.cells #[.int .i64 p.kind, .int .i64 p.int, .string p.text, .slice y p.words.length d] t)) w2.heap.size y d p :=
 ⟨hb.trans ((below_one w2 _).mono hb.size), box4_new w2 _ _ _ _ _, ht.below (below_one w2 _), hd, hy⟩
theorem gen_thenM {K : Act → World → Prop} {Q : Exit → Act → World → Prop} {e : Exit} {a : Act} {w : World} (F : World → Prop) (hF : F w) (h : ∀ W, F W → Exit.then K Q e a W) : Exit.then K Q e a w := h w hF
theorem how_allocM {w : World} {o : Obj} {y : Option Addr} (h : ∀ b off, y = some ⟨b, off, none⟩ → (w.alloc o).drew.heap.size ≤ b) : ∀ b off, y = some ⟨b, off, none⟩ → w.heap.size ≤ b ∧ b ≠ w.heap.size := fun b off e => by
 have h1 := h b off e
 have h2 : (w.alloc o).drew.heap.size = w.heap.size + 1 := World.size_alloc w o
 rw [h2] at h1
 exact ⟨by omega, by omega⟩
theorem run_append_noneK (w : World) (ty : TypeId) : (Builtin.append_ #[77, 77] ty #[.slice none 0 0, .slice none 0 0]).run Tryz.prog w = .ok (.slice none 0 0) w := by
 obtain ⟨i0, hi, hz0, hz1, hz2⟩ := info_parts infoKey
 have u3 := Tryz.underlying90
 simp [Builtin.append_, run_underlying Tryz.underlying77, Builtin.lenOf, Builtin.firstCells, sizeOf, typeInfo, hi]
set_option maxHeartbeats 1600000 in
set_option maxRecDepth 100000 in
theorem refAll0_any (S : Nat) (w : World) (h : SetAt w S none 0 []) :
  Calls Tryz.prog 39 #[.pointer (some ⟨S, 0, none⟩)] w fun e w' => e = .returned (.slice none 0 0) ∧ w = w' := by
 have hc : w.cell? ⟨S, 0, none⟩ = some (.slice none 0 0) := h.cell
 clear h
 go_enter Tryz.func39, Tryz.ntmps39
 go_wp2_with (at_builtin; refine wpList_append_eq rfl _ _ _ _ rfl _ _ _ rfl rfl (run_append_noneK _ _) ?_)
 go_loopw [4, 5, 6] (fun i _ _ wr => i = .int .i64 1 ∧ w = wr) (fun _ _ _ _ => 0)
 case atStart => exact ⟨rfl, rfl⟩
 case round =>
  obtain ⟨rfl, rfl⟩ := hrel
  go_wp2
  go_ret
  exact ⟨rfl, rfl⟩
theorem refAllB_any (xs ys : List KeyV) (hp : ys.Perm xs) (hs : Sorted xs) (S : Nat) (x : Option Addr) (c : Nat) (w : World) (h : SetAt w S x c ys) (hn : ys.length ≤ 1000000) :
  Calls Tryz.prog 39 #[.pointer (some ⟨S, 0, none⟩)] w fun e w' => ∃ y d, e = .returned (.slice y xs.length d) ∧ Keys w' y xs ∧ Below w.heap.size w w' := by
 rcases Nat.eq_zero_or_pos ys.length with h0 | h0
 ·obtain rfl : ys = [] := List.eq_nil_of_length_eq_zero h0
  obtain rfl : xs = [] := hp.symm.eq_nil
  obtain ⟨rfl, rfl⟩ := h.none_ rfl
  refine (refAll0_any S w h).mono ?_
  rintro e w' ⟨rfl, rfl⟩
  exact ⟨none, 0, rfl, Keys.nil_ _ _, Below.refl _ _⟩
 ·refine (refAllP_any xs ys hp hs S x c w h h0 hn).mono ?_
  rintro e w' ⟨g, d, rfl, _, _, hk, hb⟩
  exact ⟨_, d, rfl, hk, hb⟩
def MergeRes (w : World) (xs : List KeyV) (e : Ending) (w' : World) : Prop :=
 ∃ X yk ck lv ms, e = .returned (.tuple #[.pointer (some ⟨X, 0, none⟩), .int .i64 0, .int .i64 0, .int .i64 0]) ∧ MgAt w w' X xs.length ck yk xs lv ms ∧ ms.map (·.x) = xs.map dfltS
set_option maxHeartbeats 3200000 in
set_option maxRecDepth 100000 in
theorem smerge0_any (xs ys : List KeyV) (hp : ys.Perm xs) (hs : Sorted xs) (S : Nat) (x : Option Addr) (c : Nat) (w : World) (h : SetAt w S x c ys) (hn : ys.length ≤ 1000) (hz : ∀ k ∈ xs, k.dflt.size ≤ 2147483647) :
  Calls Tryz.prog 18 #[.pointer (some ⟨S, 0, none⟩), .slice none 0 0, .slice none 0 0] w (MergeRes w xs) := by
 have HAL := Lib.hid (refAllB_any xs ys hp hs S x c w h (by omega))
 have HZ := Lib.hid hz
 obtain ⟨n, hn'⟩ : ∃ n, xs.length = n := ⟨_, rfl⟩
 have HN := Lib.hid hn'
 have hnn : n ≤ 1000 := by rw [← hn', ← hp.length_eq]; exact hn
 clear hp hs h hn hz hn'
 go_enter Tryz.func18, Tryz.ntmps18
 go_wp2
 go_loopw [10] (fun i wr => i = .int .i64 0 ∧ w = wr) (fun _ _ => 0)
 case atStart => exact ⟨rfl, rfl⟩
 case round =>
  obtain ⟨rfl, rfl⟩ := hrel
  go_wp2_with fail
  refine HAL.out.mono ?_
  rintro e w1 ⟨y, ck, rfl, hks, hb1⟩
  rw [HN.out]
  have H0 : Hid (MgAt w (w1.alloc (Obj.cells #[.slice y n ck, .slice none 0 0] 86)) w1.heap.size n ck y xs (.slice none 0 0) []) := Lib.hid
   ⟨⟨_, heap_alloc_new _ _⟩, hks.below (below_one w1 _), SetsAt.nil_ _ _, fun m hm => (by cases hm), hb1.trans ((below_one w1 _).mono hb1.size), hb1.size, fun i => (by unfold World.frozen?; rw [show (w1.alloc (Obj.cells #[.slice y n ck, .slice none 0 0] 86)).heap[w1.heap.size]? = _ from heap_alloc_new _ _]; simp), fun b off hp e => (by obtain ⟨b', e', hl, _⟩ := hks 0 hp; obtain ⟨rfl, _⟩ : b = b' ∧ off = 0 := (by simpa using e.symm.trans e'); exact Nat.ne_of_lt hl), fun b off _ _ e => (by cases e)⟩
  clear hks hb1 HAL
  go_wp2
  generalize w1.heap.size = X at *
  go_loopw [12, 13, 14] (fun i _ _ wr => ∃ (k : Nat) (lv : Value) (ms : List SetM), i = .int .i64 k ∧ k ≤ n ∧ ms.length = k ∧ Hid (MgAt w wr X n ck y xs lv ms ∧ ms.map (·.x) = (xs.take k).map dfltS)) (fun i _ _ _ => n - (intOf i).toNat)
  case atStart => exact ⟨0, _, [], rfl, by omega, rfl, Lib.hid ⟨H0.out, rfl⟩⟩
  case round =>
   clear H0
   obtain ⟨k, lv, ms, rfl, hk, hml, HK⟩ := hrel
   obtain ⟨x0, x1⟩ := HK.out.1.obj.cells
   by_cases hlt : k < n
   ·have q1 : (0 : Int) ≤ k := by omega
    have q2 : (k : Int) < n := by omega
    have hkx : k < xs.length := by rw [HN.out]; exact hlt
    obtain ⟨b, hbe, hbl, k0, k1, k2, _⟩ := HK.out.1.keys k hkx
    subst hbe
    have hzk := HZ.out _ (List.getElem_mem hkx)
    have htk : (xs.take (k + 1)).map dfltS = (xs.take k).map dfltS ++ [dfltS xs[k]] := by rw [List.take_succ_eq_append_getElem hkx, List.map_append]; rfl
    generalize xs[k] = kq at *
    obtain ⟨kn, kk, kd, kl, km, ke⟩ := kq
    try simp only at k0 k1 k2 hzk
    have HPA : Hid (∀ W, Calls Tryz.prog 40 #[.int .i64 kk, .string kd] W (RefRes W (parseV kk kd))) := Lib.hid fun W => refParse_any kk kd W hzk
    obtain ⟨PV, hPV⟩ : ∃ PV, parseV kk kd = PV := ⟨_, rfl⟩
    have hdf : dfltS ⟨kn, kk, kd, kl, km, ke⟩ = ⟨kn, PV.1, 0⟩ := by unfold dfltS; rw [← hPV]
    rw [hdf] at htk
    rw [hPV] at HPA
    obtain ⟨⟨vk, vi, vt, vw⟩, pe⟩ := PV
    have HTK := Lib.hid htk
    have HB0 : Hid (∀ o, Below wr.heap.size wr (wr.alloc o).drew ∧ ∀ t, Box4 (wr.alloc (Obj.cells #[.int .i64 0, .int .i64 0, .string ⟨#[]⟩, .slice none 0 0] t)).drew wr.heap.size (.int .i64 0) (.int .i64 0) (.string ⟨#[]⟩) (.slice none 0 0)) := Lib.hid fun o => ⟨(below_one wr o).trans ((below_drewN _ 1).mono (below_one wr o).size), fun t => (box4_new wr _ _ _ _ t).below (below_drewN _ 1)⟩
    have HD : Hid (Below wr.heap.size wr wr.drew) := Lib.hid (below_drewN wr 1)
    have hXl : X < wr.heap.size := HK.out.1.obj.lt
    have hKX : ¬ X = b := fun e => HK.out.1.kX b 0 (by omega) rfl e.symm
    have d0 : wr.drew.cell? ⟨X, 0, none⟩ = some (.slice (some ⟨b, 0, none⟩) n ck) := x0
    have d1 : wr.drew.cell? ⟨b, k * 6 + 1, none⟩ = some (.int .i64 kk) := k1
    have d2 : wr.drew.cell? ⟨b, k * 6 + 2, none⟩ = some (.string kd) := k2
    have z5 : ∀ t, (wr.alloc (Obj.cells #[.int .i64 0, .int .i64 0, .string ⟨#[]⟩, .slice none 0 0] t)).drew.cell? ⟨X, 0, none⟩ = some (.slice (some ⟨b, 0, none⟩) n ck) := fun t => ((HB0.out _).1.cell (p := ⟨X, 0, none⟩) hXl).trans x0
    have z6 : ∀ t, (wr.alloc (Obj.cells #[.int .i64 0, .int .i64 0, .string ⟨#[]⟩, .slice none 0 0] t)).drew.cell? ⟨b, k * 6 + 1, none⟩ = some (.int .i64 kk) := fun t => ((HB0.out _).1.cell (p := ⟨b, _, none⟩) hbl).trans k1
    have z7 : ∀ t, (wr.alloc (Obj.cells #[.int .i64 0, .int .i64 0, .string ⟨#[]⟩, .slice none 0 0] t)).drew.cell? ⟨b, k * 6 + 2, none⟩ = some (.string kd) := fun t => ((HB0.out _).1.cell (p := ⟨b, _, none⟩) hbl).trans k2
    have HCK : Hid (∀ {W : World} {g o : Nat} {v : Value}, Below wr.heap.size wr W → wr.cell? ⟨g, o, none⟩ = some v → W.cell? ⟨g, o, none⟩ = some v) := Lib.hid fun hb h => (hb.cell (p := ⟨_, _, none⟩) (lt_of_cell h)).trans h
    unfold RefRes at HPA
    simp only at HPA HTK
    have HX1 := Lib.hid x1
    have HK0 := Lib.hid k0
    clear hzk htk hkx hPV hdf x1 k0
    go_wp2
    go_region_held3 (fun W => W.cell? ⟨X, 0, none⟩ = some (.slice (some ⟨b, 0, none⟩) n ck) ∧ W.cell? ⟨b, k * 6 + 1, none⟩ = some (.int .i64 kk) ∧ W.cell? ⟨b, k * 6 + 2, none⟩ = some (.string kd))
     (first | with_reducible exact ⟨d0, d1, d2⟩ | with_reducible exact ⟨x0, k1, k2⟩ | with_reducible exact ⟨u4, u5, u6⟩ | with_reducible exact ⟨z5 _, z6 _, z7 _⟩ | with_reducible exact ⟨u7 _, u8 _, u9 _⟩ | (refine ⟨?_, ?_, ?_⟩ <;> (rw [set4_cellM (A := wr.heap.size) (by omega)]; with_reducible assumption)) | (refine ⟨?_, ?_, ?_⟩ <;> (rw [set4_cellM (A := w2.heap.size) (by omega)]; first | with_reducible exact u7 _ | with_reducible exact u8 _ | with_reducible exact u9 _)))
     (first
      | (go_at_call 40; (with_reducible refine (HPA.out (wr.alloc (Obj.cells #[.int .i64 0, .int .i64 0, .string ⟨#[]⟩, .slice none 0 0] 37)).drew).mono ?_); rintro e w2 ⟨hb2, wx, wc, rfl, hwc, hwt, hwn⟩; have HBW := Lib.hid ((HB0.out _).1.trans (hb2.mono (HB0.out _).1.size)); obtain ⟨y0, y1, y2, y3, y4, y5, y6, y7⟩ := ((HB0.out (Obj.cells #[] 0)).2 37).below hb2; have HOW := Lib.hid (how_allocM hwn); have HTX := Lib.hid (And.intro hwc hwt); have u4 := HCK.out HBW.out x0; have u5 := HCK.out HBW.out k1; have u6 := HCK.out HBW.out k2; have u7 : ∀ o, (w2.alloc o).cell? ⟨X, 0, none⟩ = some (.slice (some ⟨b, 0, none⟩) n ck) := fun o => HCK.out (HBW.out.trans ((below_one w2 o).mono HBW.out.size)) x0; have u8 : ∀ o, (w2.alloc o).cell? ⟨b, k * 6 + 1, none⟩ = some (.int .i64 kk) := fun o => HCK.out (HBW.out.trans ((below_one w2 o).mono HBW.out.size)) k1; have u9 : ∀ o, (w2.alloc o).cell? ⟨b, k * 6 + 2, none⟩ = some (.string kd) := fun o => HCK.out (HBW.out.trans ((below_one w2 o).mono HBW.out.size)) k2; have hle : wr.heap.size ≤ w2.heap.size := HBW.out.size; clear hb2 hwc hwt hwn; dsimp only)
      | (go_at_call 40; (with_reducible refine (HPA.out wr.drew).mono ?_); rintro e w2 ⟨hb2, wx, wc, rfl, hwc, hwt, hwn⟩; have HBW := Lib.hid (HD.out.trans (hb2.mono (Nat.le_refl _))); have HOW : Hid (∀ b off, wx = some ⟨b, off, none⟩ → wr.heap.size ≤ b) := Lib.hid hwn; have HTX := Lib.hid (And.intro hwc hwt); have u4 := HCK.out HBW.out x0; have u5 := HCK.out HBW.out k1; have u6 := HCK.out HBW.out k2; have u7 : ∀ o, (w2.alloc o).cell? ⟨X, 0, none⟩ = some (.slice (some ⟨b, 0, none⟩) n ck) := fun o => HCK.out (HBW.out.trans ((below_one w2 o).mono HBW.out.size)) x0; have u8 : ∀ o, (w2.alloc o).cell? ⟨b, k * 6 + 1, none⟩ = some (.int .i64 kk) := fun o => HCK.out (HBW.out.trans ((below_one w2 o).mono HBW.out.size)) k1; have u9 : ∀ o, (w2.alloc o).cell? ⟨b, k * 6 + 2, none⟩ = some (.string kd) := fun o => HCK.out (HBW.out.trans ((below_one w2 o).mono HBW.out.size)) k2; have hle : wr.heap.size ≤ w2.heap.size := HBW.out.size; clear hb2 hwc hwt hwn; dsimp only))
    all_goals
     first
     | (refine gen_thenM (fun W => MV wr W wr.heap.size wx wc ⟨vk, vi, vt, vw⟩) (MV.one (p := ⟨vk, vi, vt, vw⟩) HBW.out (Nat.le_refl _) ⟨y0, y1, y2, y3, y4, y5, y6, y7⟩ HTX.out.2 HTX.out.1 HOW.out) ?_; intro wa hpa; generalize wr.heap.size = A at hpa ⊢; clear y0 y1 y2 y3 y4 y5 y6 y7)
     | (refine gen_thenM (fun W => MV wr W w2.heap.size wx wc ⟨vk, vi, vt, vw⟩) (MV.two (p := ⟨vk, vi, vt, vw⟩) HBW.out HTX.out.2 HTX.out.1 HOW.out) ?_; intro wa hpa; generalize w2.heap.size = A at hpa ⊢)
     have HPV := Lib.hid hpa
     clear hpa u4 u5 u6 u7 u8 u9 z5 z6 z7 d0 d1 d2 k1 k2 hle HBW HOW HTX HPA HB0 HD
     have HM := Lib.hid (HK.out.1.to HPV.out.below)
     have HMX := Lib.hid HK.out.2
     obtain ⟨a0, a1, a2, a3, _, _, _, _⟩ := HPV.out.box
     simp only at a0 a1 a2 a3
     have x0a : wa.cell? ⟨X, 0, none⟩ = some (.slice (some ⟨b, 0, none⟩) n ck) := HCK.out HPV.out.below x0
     have x1a : wa.cell? ⟨X, 1, none⟩ = some lv := HCK.out HPV.out.below HX1.out
     have k0a : wa.cell? ⟨b, k * 6, none⟩ = some (.string kn) := HCK.out HPV.out.below HK0.out
     have HWB : Hid (∀ b' off, 0 < vw.length → wx = some ⟨b', off, none⟩ → lv.ownBlock ≠ some b' ∧ X < b') := Lib.hid fun b' off _ e => by
      have h1 := HPV.out.yb b' off e
      exact ⟨fun e2 => by have := (HK.out.1.sets.row.lt b' e2).2; omega, by omega⟩
     obtain ⟨nw, hnw⟩ : ∃ nw, vw.length = nw := ⟨_, rfl⟩
     have HNW := Lib.hid hnw
     rw [hnw] at a3
     have HMO : Hid (∀ o, MgAt w (wa.alloc o).drew X n ck (some ⟨b, 0, none⟩) xs lv ms ∧ TxAt (wa.alloc o).drew wx vw) := Lib.hid fun o => by
      have hb : Below wa.heap.size wa (wa.alloc o).drew := (below_one wa o).trans ((below_drewN _ 1).mono (below_one wa o).size)
      exact ⟨HM.out.to hb, HPV.out.txt.below hb⟩
     have HEND : Hid (∀ o y cap w5, w5.ownsRow w.heap.size 39 6 (.slice (some ⟨y, 0, none⟩) (k + 1) cap) (k + 1) (sFlat ms ++ sCells ⟨⟨kn, ⟨vk, vi, vt, vw⟩, 0⟩, wx, wc⟩) → (wa.alloc o).drew.grownBy w5 lv.ownBlock → (lv.ownBlock = some y ∨ (wa.alloc o).drew.heap.size ≤ y) →
       (∃ u, w5.cell? ⟨X, 1, none⟩ = some u) ∧ w5.frozen? ⟨X, 1, none⟩ = false ∧ MgAt w (w5.setCell ⟨X, 1, none⟩ (.slice (some ⟨y, 0, none⟩) (k + 1) cap)) X n ck (some ⟨b, 0, none⟩) xs (.slice (some ⟨y, 0, none⟩) (k + 1) cap) (ms ++ [⟨⟨kn, ⟨vk, vi, vt, vw⟩, 0⟩, wx, wc⟩])) := Lib.hid fun o y cap w5 h1 h2 h3 => by
      refine (HMO.out o).1.push (m := ⟨⟨kn, ⟨vk, vi, vt, vw⟩, 0⟩, wx, wc⟩) (HMO.out o).2 HPV.out.cap HWB.out (by rw [hml]; exact h1) h2 fun g hg => ?_
      have e : y = g := by simpa [Value.ownBlock] using hg
      rw [← e]; exact h3
     have HKC : Hid (∀ j u, (sCells ⟨⟨kn, ⟨vk, vi, vt, vw⟩, 0⟩, wx, wc⟩)[j]? = some u → (wa.alloc (Obj.cells #[.string kn, .int .i64 vk, .int .i64 vi, .string vt, .slice wx nw wc, .int .i64 0] 39)).drew.cell? ⟨wa.heap.size, j, none⟩ = some u) := Lib.hid fun j u h => by
      have := cells_new wa (sCells ⟨⟨kn, ⟨vk, vi, vt, vw⟩, 0⟩, wx, wc⟩) 39 j u h
      unfold sCells at this
      rw [← HNW.out]
      exact this
     have HOW : Hid (∀ o, (wa.alloc o).drew.ownsRow w.heap.size 39 6 lv k (sFlat ms) ∧ w.heap.size ≤ (wa.alloc o).drew.heap.size) := Lib.hid fun o => ⟨by have := (HMO.out o).1.sets.row; rw [hml] at this; exact this, (HMO.out o).1.below.size⟩
     have x1o : ∀ o, (wa.alloc o).drew.cell? ⟨X, 1, none⟩ = some lv := fun o => (HMO.out o).1.obj.cells.2
     have x1p : ∀ o, (wa.alloc o).cell? ⟨X, 1, none⟩ = some lv := x1o
     clear HM HK hnw HMO x0 HCK HPV HX1 HK0
     go_wp2
     go_region_law (first
      | (refine stepSt rfl _ _ rfl (HOW.out _).1 (HOW.out _).2 (by omega) ⟨⟨kn, ⟨vk, vi, vt, vw⟩, 0⟩, wx, wc⟩ rfl rfl HKC.out ?_; intro y cap w5 h1 h2 h3; obtain ⟨⟨u5, c5⟩, f5, hm5⟩ := HEND.out _ _ _ _ h1 h2 h3; have HM5 := Lib.hid hm5; clear h1 h2 h3 hm5))
     all_goals
      go_wp2
      go_roundw
      case rel => exact ⟨k + 1, _, _, by go_num, by omega, by rw [List.length_append, hml]; rfl, Lib.hid ⟨HM5.out, by rw [List.map_append, HMX.out, HTK.out]; rfl⟩⟩
      case measure => simp [intOf]; omega
   ·obtain rfl : k = n := by omega
    have q2 : ¬ (k : Int) < k := by omega
    have HF : Hid (ms.map (·.x) = xs.map dfltS) := Lib.hid (by rw [HK.out.2, List.take_of_length_le (by rw [HN.out]; exact Nat.le_refl _)])
    go_wp2
    go_loopw [15] (fun i ws => i = .int .i64 0 ∧ wr = ws) (fun _ _ => 0)
    case atStart => exact ⟨rfl, rfl⟩
    case round =>
     obtain ⟨rfl, rfl⟩ := hrel
     go_wp2
     exact bodyPost_ret (v := .tuple #[.pointer (some ⟨X, 0, none⟩), .int .i64 0, .int .i64 0, .int .i64 0]) (by simp [results, Tryz.results18, go_sem]) rfl ⟨X, y, ck, lv, ms, rfl, by rw [HN.out]; exact HK.out.1, HF.out⟩
end Go.Proofs.YtlcgfdijohgnpaaGreatDoor
