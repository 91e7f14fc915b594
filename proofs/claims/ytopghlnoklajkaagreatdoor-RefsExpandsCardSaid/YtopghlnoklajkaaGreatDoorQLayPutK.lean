/-
  LayPutK.
-/
import Derived.Test.YtopghlnoklajkaaGreatDoorQLayAll
import Derived.Test.YtopghlnoklajkaaGreatDoorQKeyFinds
namespace Go.Proofs.YtopghlnoklajkaaGreatDoor
open Go.ChangeShapes Go.WideShapes Go.ChangeAt Go.RowKit

def hFlat (ms : List SetM) : List Value := ms.flatMap hCells
theorem hFlat_len (ms : List SetM) : (hFlat ms).length = ms.length * 5 := by
 unfold hFlat
 induction ms with
 | nil => rfl
 | cons m r ih => rw [List.flatMap_cons, List.length_append, ih]; simp [hCells]; omega
theorem hFlat_at (l : List SetM) : ∀ k (h : k < l.length) j, j < 5 → (hFlat l)[k * 5 + j]? = (hCells l[k])[j]? := by
 induction l with
 | nil => intro k h; simp at h
 | cons m r ih =>
  intro k h j hj
  unfold hFlat
  rw [List.flatMap_cons]
  cases k with
  | zero =>
   rw [Nat.zero_mul, Nat.zero_add, List.getElem?_append_left (by simp [hCells]; omega)]
   rfl
  | succ k =>
   rw [List.getElem?_append_right (by simp [hCells]; omega)]
   have := ih k (by simpa using h) j hj
   simp only [List.getElem_cons_succ]
   rw [← this]
   unfold hFlat
   congr 1
   simp [hCells]
   omega
theorem infoHeld : (Tryz.prog.info? 112).map (fun i => (i.zero, i.size, i.bytes)) = some (some (.agg #[.int .i64 0, .int .i64 0, .string ByteArray.empty, .slice none 0 0, .int .i64 0]), 5, 64) := by kernel_rfl
theorem grow_runH (w : World) (b off : Nat) (g o m c : Nat) (news : List Value) (hl : news.length = m * 5) (hnews : ∀ (j : Nat) (v : Value), news[j]? = some v → w.cell? ⟨g, o + j, none⟩ = some v) (hm : 0 < m) (hn : m ≤ 1000000) :
  ∃ c' cur, (∀ ty, (Builtin.append_ #[83, 83] ty #[.slice (some ⟨b, off, none⟩) 0 0, .slice (some ⟨g, o, none⟩) m c]).run Tryz.prog w = .ok (.slice (some ⟨w.heap.size, 0, none⟩) m c') (w.drew.alloc (.cells cur 112))) ∧
   m ≤ c' ∧ c' * 5 = cur.size ∧ ∀ (j : Nat) (v : Value), news[j]? = some v → cur[j]? = some v := by
 obtain ⟨i0, hi, hz0, hz1, hz2⟩ := info_parts infoHeld
 have hle := grownCap_ge w (0 + m) 0 112
 rw [Nat.zero_add] at hle
 have hrun := fun ty => run_append_grow (P := Tryz.prog) w 83 ty 112 i0 _ Tryz.underlying83 hi hz0 ⟨b, off, none⟩ 0 0 [] (by rw [hz1]; rfl) (fun j v hv => by simp at hv) ⟨g, o, none⟩ m c news (by rw [hz1]; exact hl) (fun j v hv => by rw [add_at]; exact hnews j v hv) (by omega) (by omega) (growslice_fits (by omega) (by rw [hz2]; omega))
 simp only [Nat.zero_add] at hrun
 refine ⟨_, _, hrun, hle, ?_, ?_⟩
 ·rw [Array.size_append, Array.size_append, size_zeroCells]
  show _ = (List.toArray ([] : List Value)).size + news.toArray.size + (_ - m) * 5
  simp only [List.size_toArray, List.length_nil, hl]
  omega
 ·intro j v hv
  have hj : j < news.length := (List.getElem?_eq_some_iff.1 hv).1
  rw [show (List.toArray ([] : List Value)) ++ news.toArray = news.toArray by simp, Array.getElem?_append_left (by simpa using hj)]
  rw [List.getElem?_toArray]; exact hv
def HcRes (w : World) (ms : List SetM) (e : Ending) (w' : World) : Prop :=
 ∃ g c' cur, e = .returned (.slice (some ⟨g, 0, none⟩) ms.length c') ∧ w.heap.size ≤ g ∧ Below w.heap.size w w' ∧ w'.heap[g]? = some (.cells cur 112) ∧ ms.length ≤ c' ∧ ∀ (j : Nat) (v : Value), (hFlat ms)[j]? = some v → cur[j]? = some v
theorem HeldAt.flat {F : Nat → Prop} {w : World} {b : Nat} {ms : List SetM} (h : HeldAt F w (some ⟨b, 0, none⟩) ms) (j : Nat) (v : Value) (hv : (hFlat ms)[j]? = some v) : w.cell? ⟨b, j, none⟩ = some v := by
 have hj := (List.getElem?_eq_some_iff.1 hv).1
 rw [hFlat_len] at hj
 obtain ⟨q, r, hq, hr⟩ : ∃ q r, j = q * 5 + r ∧ r < 5 := ⟨j / 5, j % 5, by omega, by omega⟩
 subst hq
 have hql : q < ms.length := by omega
 obtain ⟨b', e, _, _, hc, _⟩ := h q hql
 obtain rfl : b = b' := by simpa using e
 rw [hc r hr, ← hFlat_at ms q hql r hr]
 exact hv
set_option maxHeartbeats 1600000 in
set_option maxRecDepth 100000 in
theorem hclone_any (F : Nat → Prop) (ms : List SetM) (b c : Nat) (w : World) (hx : HeldAt F w (some ⟨b, 0, none⟩) ms) (h0 : 0 < ms.length) (hn : ms.length ≤ 1000000) :
  Calls Tryz.prog 46 #[.slice (some ⟨b, 0, none⟩) ms.length c] w (HcRes w ms) := by
 have hg : ∀ t, ∃ c' cur, (∀ ty, (Builtin.append_ #[83, 83] ty #[.slice (some ⟨w.heap.size, 0, none⟩) 0 0, .slice (some ⟨b, 0, none⟩) ms.length c]).run Tryz.prog (w.alloc (Obj.cells #[] t)) = .ok (.slice (some ⟨w.heap.size + 1, 0, none⟩) ms.length c') ((w.alloc (Obj.cells #[] t)).drew.alloc (.cells cur 112))) ∧ HcRes w ms (.returned (.slice (some ⟨w.heap.size + 1, 0, none⟩) ms.length c')) ((w.alloc (Obj.cells #[] t)).drew.alloc (.cells cur 112)) := fun t => by
  have hb := below_one w (Obj.cells #[] t)
  obtain ⟨c', cur, hr, h1, _, h3⟩ := grow_runH (w.alloc (Obj.cells #[] t)) w.heap.size 0 b 0 ms.length c (hFlat ms) (hFlat_len ms) (fun j v hv => by rw [Nat.zero_add]; exact (hx.below hb).flat j v hv) h0 (by omega)
  have hsz : (w.alloc (Obj.cells #[] t)).heap.size = w.heap.size + 1 := by simp
  rw [hsz] at hr
  refine ⟨c', cur, hr, _, c', cur, rfl, Nat.le_succ _, hb.trans ((below_drew_alloc _ _).mono hb.size), ?_, h1, h3⟩
  rw [← hsz]
  exact heap_alloc_new (w.alloc (Obj.cells #[] t)).drew _
 obtain ⟨c', cur, hr, hE⟩ := hg 112
 have HR := Lib.hid hr
 have HE := Lib.hid hE
 clear hr hE hx hg
 generalize ms.length = n at *
 have hq : ∀ (w : World) (a : Option Addr) (n c n' c' : Nat), (binOp .eql 83 (.slice a n c) (.slice none n' c')).run Tryz.prog w = .ok (.bool a.isNone) w := fun w a n c n' c' => Lib.run_eql_slice_nil w _ _ a n c n' c' Tryz.underlying83
 go_enter Tryz.func46, Tryz.ntmps46
 go_wp2_with (at_builtin; refine wpList_append_eq rfl _ _ _ _ rfl _ _ _ rfl rfl (HR.out _) ?_)
 go_ret
 exact HE.out
def Fn (F : Nat → Prop) (N M : Nat) : Nat → Prop := fun b => F b ∨ (N ≤ b ∧ b < M)
theorem DefsAt.wide {F : Nat → Prop} {w : World} {x : Option Addr} {ks : List KeyV} (h : DefsAt F w x ks) (N M : Nat) : DefsAt (Fn F N M) w x ks := fun i hi => by
 obtain ⟨b, e, hF, r⟩ := h i hi
 exact ⟨b, e, .inl hF, r⟩
theorem WordsAt.wide {F : Nat → Prop} {w : World} {m : SetM} (h : WordsAt F w m) (N M : Nat) : WordsAt (Fn F N M) w m := ⟨h.1, h.2.1, fun b off hp e => .inl (h.2.2 b off hp e)⟩
theorem put_fin {F : Nat → Prop} {w wd : World} {X : Nat} {dx hx : Option Addr} {dc hc : Nat} {ks : List KeyV} {ms : List SetM} (h : LayAt F w X dx dc hx hc ks ms) {g c' : Nat} {cur : Array Value} (hb : But X w wd) (hX : wd.heap[X]? = some (Obj.cells #[.slice dx ks.length dc, .slice (some ⟨g, 0, none⟩) ms.length c'] 85))
  (hg : w.heap.size ≤ g) (hG : wd.heap[g]? = some (.cells cur 112)) (hcur : ∀ (j : Nat) (v : Value), (hFlat ms)[j]? = some v → cur[j]? = some v) (hc' : ms.length ≤ c') {j : Nat} (hj : j < ms.length) (v : Val) (y : Option Addr) (d : Nat) (fr : Int) {B : Nat} (hB : w.heap.size ≤ B) (hr : wd.ownsRow B 9 1 (.slice y v.words.length d) v.words.length (v.words.map Value.string)) :
  LayAt (Fn F w.heap.size wd.heap.size) (((((wd.setCell ⟨g, j * 5, none⟩ (.int .i64 v.kind)).setCell ⟨g, j * 5 + 1, none⟩ (.int .i64 v.int)).setCell ⟨g, j * 5 + 2, none⟩ (.string v.text)).setCell ⟨g, j * 5 + 3, none⟩ (.slice y v.words.length d)).setCell ⟨g, j * 5 + 4, none⟩ (.int .i64 fr)) X dx dc (some ⟨g, 0, none⟩) c' ks (ms.set j ⟨⟨ms[j].x.name, v, fr⟩, y, d⟩) ∧
  But X w (((((wd.setCell ⟨g, j * 5, none⟩ (.int .i64 v.kind)).setCell ⟨g, j * 5 + 1, none⟩ (.int .i64 v.int)).setCell ⟨g, j * 5 + 2, none⟩ (.string v.text)).setCell ⟨g, j * 5 + 3, none⟩ (.slice y v.words.length d)).setCell ⟨g, j * 5 + 4, none⟩ (.int .i64 fr)) := by
 have hXl : X < w.heap.size := heap_ltF h.obj
 obtain ⟨we, hwe⟩ : ∃ we, (((((wd.setCell ⟨g, j * 5, none⟩ (.int .i64 v.kind)).setCell ⟨g, j * 5 + 1, none⟩ (.int .i64 v.int)).setCell ⟨g, j * 5 + 2, none⟩ (.string v.text)).setCell ⟨g, j * 5 + 3, none⟩ (.slice y v.words.length d)).setCell ⟨g, j * 5 + 4, none⟩ (.int .i64 fr)) = we := ⟨_, rfl⟩
 have hgr : wd.grownBy we (some g) := by
  rw [← hwe]
  exact ((((setGrown wd g _ _).trans (setGrown _ g _ _)).trans (setGrown _ g _ _)).trans (setGrown _ g _ _)).trans (setGrown _ g _ _)
 have hbut : But X w we := ⟨hgr.os.trans hb.1, hgr.tape.trans hb.2.1, hgr.output.trans hb.2.2.1, Nat.le_trans hb.2.2.2.1 hgr.size, fun k hk hn => (hgr.block k (Nat.lt_of_lt_of_le hk hb.2.2.2.1) (fun e => by injection e with e; omega)).trans (hb.2.2.2.2 k hk hn)⟩
 have hst : Stay F w we := .of_but hbut h.out
 have hgl : g < wd.heap.size := heap_ltF hG
 have hfl := hFlat_len ms
 have hcell : ∀ i, wd.cell? ⟨g, i, none⟩ = cur[i]? := fun i => cell_of_row wd g i _ _ _ hG
 have hsome : ∀ r, r < 5 → ∃ u, wd.cell? ⟨g, j * 5 + r, none⟩ = some u := fun r hr => by
  rw [hcell]
  exact ⟨_, hcur (j * 5 + r) _ (List.getElem?_eq_getElem (by omega))⟩
 have o : ∀ (W : World) (i k : Nat) (u : Value), i ≠ k → (W.setCell ⟨g, i, none⟩ u).cell? ⟨g, k, none⟩ = W.cell? ⟨g, k, none⟩ := fun W i k u hn => World.cell?_setCell_other _ _ _ _ (fun e => hn (by injection e))
 have s : ∀ (W : World) (i : Nat) (u : Value), (∃ x, W.cell? ⟨g, i, none⟩ = some x) → (W.setCell ⟨g, i, none⟩ u).cell? ⟨g, i, none⟩ = some u := fun W i u ⟨x, hx⟩ => World.cell?_setCell_same _ _ _ hx
 have hother : ∀ i, (∀ r, r < 5 → i ≠ j * 5 + r) → we.cell? ⟨g, i, none⟩ = wd.cell? ⟨g, i, none⟩ := fun i hi => by
  rw [← hwe, o _ _ _ _ (fun e => hi 4 (by decide) e.symm), o _ _ _ _ (fun e => hi 3 (by decide) e.symm), o _ _ _ _ (fun e => hi 2 (by decide) e.symm), o _ _ _ _ (fun e => hi 1 (by decide) e.symm), o _ _ _ _ (fun e => hi 0 (by decide) (by omega))]
 have hmine : ∀ r, r < 5 → we.cell? ⟨g, j * 5 + r, none⟩ = (hCells ⟨⟨ms[j].x.name, v, fr⟩, y, d⟩)[r]? := fun r hr => by
  have h5 : r = 0 ∨ r = 1 ∨ r = 2 ∨ r = 3 ∨ r = 4 := by omega
  have s0 := hsome 0 (by decide)
  have s1 := hsome 1 (by decide)
  have s2 := hsome 2 (by decide)
  have s3 := hsome 3 (by decide)
  have s4 := hsome 4 (by decide)
  rw [Nat.add_zero] at s0
  rw [← hwe]
  rcases h5 with rfl | rfl | rfl | rfl | rfl
  ·simp only [Nat.add_zero]
   rw [o _ _ _ _ (by omega), o _ _ _ _ (by omega), o _ _ _ _ (by omega), o _ _ _ _ (by omega), s _ _ _ s0]; rfl
  ·rw [o _ _ _ _ (by omega), o _ _ _ _ (by omega), o _ _ _ _ (by omega), s _ _ _ (by rw [o _ _ _ _ (by omega)]; exact s1)]; rfl
  ·rw [o _ _ _ _ (by omega), o _ _ _ _ (by omega), s _ _ _ (by rw [o _ _ _ _ (by omega), o _ _ _ _ (by omega)]; exact s2)]; rfl
  ·rw [o _ _ _ _ (by omega), s _ _ _ (by rw [o _ _ _ _ (by omega), o _ _ _ _ (by omega), o _ _ _ _ (by omega)]; exact s3)]; rfl
  ·rw [s _ _ _ (by rw [o _ _ _ _ (by omega), o _ _ _ _ (by omega), o _ _ _ _ (by omega), o _ _ _ _ (by omega)]; exact s4)]; rfl
 rw [hwe]
 have hne : y = none ∨ (Value.slice y v.words.length d).ownBlock ≠ some g := by
  rcases hr.2 with ⟨h1, _⟩ | ⟨g2, cap, cur2, h1, _, hg2, _⟩
  ·injection h1 with h1 _ _; exact .inl h1
  ·right
   rw [h1]
   intro e
   have e : g2 = g := by simpa [Value.ownBlock] using e
   subst e
   rw [hG] at hg2
   injection hg2 with hg2
   injection hg2 with _ ht _
   exact absurd ht (by decide)
 have hrw : we.ownsRow B 9 1 (.slice y v.words.length d) v.words.length (v.words.map Value.string) := hr.kept hgr (by
  rcases hne with h1 | h1
  ·left; rw [h1]; rfl
  ·exact .inr h1)
 refine ⟨⟨?_, (h.defs.stay hst).wide _ _, fun i hi => ?_, ?_, ?_, ?_⟩, hbut⟩
 ·rw [List.length_set, hgr.block X (Nat.lt_of_lt_of_le hXl hb.2.2.2.1) (fun e => by injection e with e; omega)]
  exact hX
 ·rw [List.length_set] at hi
  refine ⟨g, rfl, .inr ⟨hg, hgl⟩, Nat.lt_of_lt_of_le hgl hgr.size, fun r hr5 => ?_, ?_⟩
  ·by_cases e : i = j
   ·subst e
    rw [List.getElem_set_self]
    exact hmine r hr5
   ·rw [List.getElem_set_ne (fun e2 => e e2.symm), hother _ (fun r' hr' e2 => e (by omega)), hcell, ← hFlat_at ms i hi r hr5]
    cases hh : (hFlat ms)[i * 5 + r]? with
    | none => rw [List.getElem?_eq_none_iff] at hh; omega
    | some u => exact hcur _ _ hh
  ·by_cases e : i = j
   ·subst e
    rw [List.getElem_set_self]
    refine ⟨?_, ?_, fun b off hp e2 => ?_⟩
    ·intro k hk
     rcases hrw.2 with ⟨h1, h2⟩ | ⟨g2, cap, cur2, h1, _, hgg, _⟩
     ·simp only at hk; omega
     ·injection h1 with h1 _ _
      subst h1
      refine ⟨g2, 0, rfl, heap_ltF hgg, ?_⟩
      rw [Nat.zero_add, hrw.cellAt k (by simp only at hk; omega), List.getElem?_map, List.getElem?_eq_getElem hk]; rfl
    ·rcases hrw.2 with ⟨h1, h2⟩ | ⟨g2, cap, cur2, h1, _, _, hnc, _⟩
     ·simp only; omega
     ·injection h1 with _ _ h3
      simp only; omega
    ·simp only at e2
     subst e2
     obtain ⟨h3, h4⟩ := hr.lt b rfl
     exact .inr ⟨by omega, h4⟩
   ·rw [List.getElem_set_ne (fun e2 => e e2.symm)]
    obtain ⟨_, _, _, _, _, hw⟩ := h.held i hi
    exact (hw.stay hst).wide _ _
 ·rintro (h1 | h1)
  ·exact h.out h1
  ·omega
 ·rw [List.length_set]; exact hc'
 ·rintro b (h1 | ⟨_, h1⟩)
  ·exact Nat.lt_of_lt_of_le (h.lt b h1) hbut.2.2.2.1
  ·exact Nat.lt_of_lt_of_le h1 hgr.size
end Go.Proofs.YtopghlnoklajkaaGreatDoor
