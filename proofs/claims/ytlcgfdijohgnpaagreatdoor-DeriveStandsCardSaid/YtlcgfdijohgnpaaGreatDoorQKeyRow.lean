/-
  KeyRow.
-/
import Derived.Test.YtlcgfdijohgnpaaGreatDoorQKeyLetter
import Derived.Test.YtlcgfdijohgnpaaGreatDoorQRowOps
import Derived.OwnWalk
import Derived.Lib.AppendZerosOnto
namespace Go.Proofs.YtlcgfdijohgnpaaGreatDoor
open Go.ChangeShapes Go.WideShapes Go.ChangeAt Go.RowKit

def flat (xs : List KeyV) : List Value := xs.flatMap kCells
theorem flat_cons (k : KeyV) (xs : List KeyV) : flat (k :: xs) = kCells k ++ flat xs := rfl
theorem flat_append (a b : List KeyV) : flat (a ++ b) = flat a ++ flat b := by unfold flat; rw [List.flatMap_append]
theorem flat_len (xs : List KeyV) : (flat xs).length = xs.length * 6 := by
 induction xs with
 | nil => rfl
 | cons k xs ih => rw [flat_cons, List.length_append, ih, List.length_cons]; show 6 + _ = _; omega
theorem flat_get (xs : List KeyV) : ∀ (i r : Nat) (h : i < xs.length), r < 6 → (flat xs)[i * 6 + r]? = (kCells xs[i])[r]? := by
 induction xs with
 | nil => intro i r h; exact absurd h (by simp)
 | cons k xs ih =>
  intro i r h hr
  rw [flat_cons]
  cases i with
  | zero => rw [List.getElem?_append_left (by show 0 * 6 + r < 6; omega)]; rw [show 0 * 6 + r = r by omega]; rfl
  | succ i =>
   rw [List.getElem?_append_right (by show 6 ≤ _; omega), show (i + 1) * 6 + r - (kCells k).length = i * 6 + r by show _ - 6 = _; omega]
   exact ih i r (by simpa using h) hr
theorem Keys.flat {w : World} {b : Nat} {xs : List KeyV} (h : Keys w (some ⟨b, 0, none⟩) xs) : ∀ (j : Nat) (v : Value), (Go.Proofs.YtlcgfdijohgnpaaGreatDoor.flat xs)[j]? = some v → w.cell? ⟨b, j, none⟩ = some v := by
 intro j v hv
 have hj : j < xs.length * 6 := by rw [← flat_len]; exact (List.getElem?_eq_some_iff.1 hv).1
 have hi : j / 6 < xs.length := by omega
 have hr : j % 6 < 6 := by omega
 have e : j = j / 6 * 6 + j % 6 := by omega
 obtain ⟨b', hb, _, c0, c1, c2, c3, c4, c5⟩ := h (j / 6) hi
 have eb : b = b' := by simpa using hb
 subst eb
 rw [e, flat_get xs _ _ hi hr] at hv
 rw [e]
 generalize xs[j / 6] = k at *
 have h6 : j % 6 = 0 ∨ j % 6 = 1 ∨ j % 6 = 2 ∨ j % 6 = 3 ∨ j % 6 = 4 ∨ j % 6 = 5 := by omega
 rcases h6 with h6 | h6 | h6 | h6 | h6 | h6
 all_goals
  rw [h6] at hv ⊢
  simp only [kCells, List.getElem?_cons_zero, List.getElem?_cons_succ] at hv
  rw [← hv]
  assumption
theorem Keys.of_block {w : World} {g : Nat} {cur : Array Value} {t : TypeId} {fr : Nat × Nat} {xs : List KeyV} (hg : w.heap[g]? = some (.cells cur t fr)) (hp : ∀ (j : Nat) (v : Value), (Go.Proofs.YtlcgfdijohgnpaaGreatDoor.flat xs)[j]? = some v → cur[j]? = some v) : Keys w (some ⟨g, 0, none⟩) xs := by
 intro i hi
 have c : ∀ r, r < 6 → w.cell? ⟨g, i * 6 + r, none⟩ = (kCells xs[i])[r]? := fun r hr => by
  rw [cell_of_row w g _ cur t fr hg, ← flat_get xs i r hi hr]
  have hl : i * 6 + r < (Go.Proofs.YtlcgfdijohgnpaaGreatDoor.flat xs).length := by rw [flat_len]; omega
  rw [List.getElem?_eq_getElem hl]
  exact hp _ _ (List.getElem?_eq_getElem hl)
 exact ⟨g, rfl, (Array.getElem?_eq_some_iff.1 hg).1, c 0 (by decide), c 1 (by decide), c 2 (by decide), c 3 (by decide), c 4 (by decide), c 5 (by decide)⟩
theorem flat_one (xs : List KeyV) : ∀ v ∈ flat xs, v.oneCell' = true := by
 intro v hv
 obtain ⟨k, _, hk⟩ := List.mem_flatMap.1 hv
 simp only [kCells, List.mem_cons, List.not_mem_nil, or_false] at hk
 rcases hk with rfl | rfl | rfl | rfl | rfl | rfl <;> rfl
theorem infoKey : (Tryz.prog.info? 90).map (fun i => (i.zero, i.size, i.bytes)) = some (some (.agg #[.string ByteArray.empty, .int .i64 0, .string ByteArray.empty, .int .i64 0, .int .i64 0, .string ByteArray.empty]), 6, 72) := by kernel_rfl
def insK (xs : List KeyV) (i : Nat) (k : KeyV) : List KeyV := xs.take i ++ k :: xs.drop i
def InsRes (w : World) (xs : List KeyV) (e : Ending) (w' : World) : Prop :=
 ∃ g c, e = .returned (.slice (some ⟨g, 0, none⟩) xs.length c) ∧ w.heap.size ≤ g ∧ xs.length ≤ c ∧ Keys w' (some ⟨g, 0, none⟩) xs ∧ Below w.heap.size w w'

theorem below_drew_alloc (w : World) (o : Obj) : Below w.heap.size w (w.drew.alloc o) := (Below.refl _ w.drew).alloc (Nat.le_refl _) o |> fun h => ⟨h.os, h.tape, h.output, h.size, h.block⟩
theorem add_at (g o j : Nat) : (⟨g, o, none⟩ : Addr).add j = ⟨g, o + j, none⟩ := by unfold Addr.add; split <;> simp_all
theorem grow_run (w : World) (b off n : Nat) (olds : List Value) (ho : olds.length = n * 6) (holds : ∀ (j : Nat) (v : Value), olds[j]? = some v → w.cell? ⟨b, off + j, none⟩ = some v)
  (g o m c : Nat) (news : List Value) (hl : news.length = m * 6) (hnews : ∀ (j : Nat) (v : Value), news[j]? = some v → w.cell? ⟨g, o + j, none⟩ = some v) (sc : Nat) (hc : sc < n + m) (hn : n + m ≤ 1000000) :
  ∃ c' cur, (∀ ty, (Builtin.append_ #[77, 77] ty #[.slice (some ⟨b, off, none⟩) n sc, .slice (some ⟨g, o, none⟩) m c]).run Tryz.prog w = .ok (.slice (some ⟨w.heap.size, 0, none⟩) (n + m) c') (w.drew.alloc (.cells cur 90))) ∧
   n + m ≤ c' ∧ c' * 6 = cur.size ∧ ∀ (j : Nat) (v : Value), (olds ++ news)[j]? = some v → cur[j]? = some v := by
 obtain ⟨i0, hi, hz0, hz1, hz2⟩ := info_parts infoKey
 have hle := grownCap_ge w (n + m) sc 90
 refine ⟨_, _, fun ty => run_append_grow (P := Tryz.prog) w 77 ty 90 i0 _ Tryz.underlying77 hi hz0 ⟨b, off, none⟩ n sc olds (by rw [hz1]; exact ho) (fun j v hv => by rw [add_at]; exact holds j v hv) ⟨g, o, none⟩ m c news (by rw [hz1]; exact hl) (fun j v hv => by rw [add_at]; exact hnews j v hv) hc (by omega) (growslice_fits hc (by rw [hz2]; omega)), hle, ?_, ?_⟩
 ·rw [Array.size_append, Array.size_append, size_zeroCells]
  show _ = olds.toArray.size + news.toArray.size + (_ - (n + m)) * 6
  simp only [List.size_toArray, ho, hl]
  omega
 ·intro j v hv
  have hj : j < (olds ++ news).length := (List.getElem?_eq_some_iff.1 hv).1
  rw [show olds.toArray ++ news.toArray = (olds ++ news).toArray by simp, Array.getElem?_append_left (by simpa using hj)]
  rw [List.getElem?_toArray]; exact hv
theorem first_run (w : World) (g o m c : Nat) (news : List Value) (hl : news.length = m * 6) (hnews : ∀ (j : Nat) (v : Value), news[j]? = some v → w.cell? ⟨g, o + j, none⟩ = some v) (hm : 0 < m) (hn : m ≤ 1000000) :
  ∃ c' cur, (∀ ty, (Builtin.append_ #[77, 77] ty #[.slice none 0 0, .slice (some ⟨g, o, none⟩) m c]).run Tryz.prog w = .ok (.slice (some ⟨w.heap.size, 0, none⟩) m c') (w.drew.alloc (.cells cur 90))) ∧
   m ≤ c' ∧ c' * 6 = cur.size ∧ ∀ (j : Nat) (v : Value), news[j]? = some v → cur[j]? = some v := by
 obtain ⟨i0, hi, hz0, hz1, hz2⟩ := info_parts infoKey
 have hle := grownCap_ge w m 0 90
 refine ⟨_, _, fun ty => run_append_nil (P := Tryz.prog) w 77 ty 90 i0 _ Tryz.underlying77 hi hz0 ⟨g, o, none⟩ m c news (by rw [hz1]; exact hl) (fun j v hv => by rw [add_at]; exact hnews j v hv) hm (by omega) (by rw [hz2]; omega), hle, ?_, ?_⟩
 ·rw [Array.size_append, size_zeroCells]
  show _ = news.toArray.size + (_ - m) * 6
  simp only [List.size_toArray, hl]
  omega
 ·intro j v hv
  have hj : j < news.length := (List.getElem?_eq_some_iff.1 hv).1
  rw [Array.getElem?_append_left (by simpa using hj)]
  rw [List.getElem?_toArray]; exact hv
theorem zeros_run (w : World) (b off n : Nat) (olds : List Value) (ho : olds.length = n * 6) (holds : ∀ (j : Nat) (v : Value), olds[j]? = some v → w.cell? ⟨b, off + j, none⟩ = some v)
  (m : Nat) (h0 : 0 < m) (sc : Nat) (hc : sc < n + m) (hn : n + m ≤ 1000000) :
  ∃ c' cur, (∀ ty, (Builtin.append_ #[77, 3] ty #[.slice (some ⟨b, off, none⟩) n sc, .int .i64 m]).run Tryz.prog w = .ok (.slice (some ⟨w.heap.size, 0, none⟩) (n + m) c') (w.drew.alloc (.cells cur 90))) ∧
   n + m ≤ c' ∧ c' * 6 = cur.size ∧ ∀ (j : Nat) (v : Value), olds[j]? = some v → cur[j]? = some v := by
 obtain ⟨i0, hi, hz0, hz1, hz2⟩ := info_parts infoKey
 have hle := grownCap_ge w (n + m) sc 90
 refine ⟨_, _, fun ty => Lib.run_append_grow_zeros (P := Tryz.prog) w 77 3 ty 90 i0 _ .i64 .i64 Tryz.underlying77 Tryz.underlying3 hi hz0 (some ⟨b, off, none⟩) n sc olds
  (run_firstCells_some (P := Tryz.prog) w.drew i0.size n ⟨b, off, none⟩ n sc olds (by rw [hz1]; exact ho) (fun j v hv => by rw [add_at]; exact holds j v hv)) m h0 (by rw [hz1]; decide) hc (by omega) (by rw [hz2]; omega) (growslice_fits hc (by rw [hz2]; omega)), hle, ?_, ?_⟩
 ·rw [Array.size_append, Array.size_append, size_zeroCells, size_zeroCells]
  show _ = olds.toArray.size + m * 6 + (_ - (n + m)) * 6
  simp only [List.size_toArray, ho]
  omega
 ·intro j v hv
  have hj : j < olds.length := (List.getElem?_eq_some_iff.1 hv).1
  rw [Array.append_assoc, Array.getElem?_append_left (by simpa using hj)]
  rw [List.getElem?_toArray]; exact hv
def over (cur : Array Value) (o : Nat) (cs : List Value) : Array Value := (cur.toList.take o ++ cs ++ cur.toList.drop (o + cs.length)).toArray
theorem over_size {cur : Array Value} {o : Nat} {cs : List Value} (hfit : o + cs.length ≤ cur.size) : (over cur o cs).size = cur.size := by
 unfold over
 simp only [List.size_toArray, List.length_append, List.length_take, List.length_drop, Array.length_toList]; omega
theorem over_in {cur : Array Value} {o : Nat} {cs : List Value} (hfit : o + cs.length ≤ cur.size) (j : Nat) (v : Value) (hv : cs[j]? = some v) : (over cur o cs)[o + j]? = some v := by
 have hj : j < cs.length := (List.getElem?_eq_some_iff.1 hv).1
 unfold over
 rw [List.getElem?_toArray, List.append_assoc, List.getElem?_append_right (by rw [List.length_take, Array.length_toList (xs := cur)]; omega), List.getElem?_append_left (by rw [List.length_take, Array.length_toList (xs := cur)]; omega), List.length_take, Array.length_toList (xs := cur)]
 rw [show o + j - min o cur.size = j by omega]; exact hv
theorem over_out {cur : Array Value} {o : Nat} {cs : List Value} (hfit : o + cs.length ≤ cur.size) (j : Nat) (hj : j < o ∨ o + cs.length ≤ j) : (over cur o cs)[j]? = cur[j]? := by
 unfold over
 rw [List.getElem?_toArray, List.append_assoc]
 rcases hj with hj | hj
 ·rw [List.getElem?_append_left (by rw [List.length_take, Array.length_toList (xs := cur)]; omega), List.getElem?_take, if_pos hj, Array.getElem?_toList]
 ·rw [List.getElem?_append_right (by rw [List.length_take, Array.length_toList (xs := cur)]; omega), List.getElem?_append_right (by rw [List.length_take, Array.length_toList (xs := cur)]; omega), List.getElem?_drop, List.length_take, Array.length_toList (xs := cur), Array.getElem?_toList]
  rw [show o + cs.length + (j - min o cur.size - cs.length) = j by omega]
theorem copy_run (w : World) (g o dl dc b off sl sc n : Nat) (cs : List Value) (cur : Array Value) (t : TypeId) (hg : w.heap[g]? = some (.cells cur t (0, 0))) (hm : Nat.min sl dl = n) (hn : cs.length = n * 6)
  (hsrc : ∀ (j : Nat) (v : Value), cs[j]? = some v → w.cell? ⟨b, off + j, none⟩ = some v) (hfit : o + cs.length ≤ cur.size) (h1 : ∀ v ∈ cs, v.oneCell' = true) (ty : TypeId) :
  (Builtin.copy_ #[77, 77] ty #[.slice (some ⟨g, o, none⟩) dl dc, .slice (some ⟨b, off, none⟩) sl sc]).run Tryz.prog w = .ok (goInt n) (w.setRow g (over cur o cs)) := by
 obtain ⟨i0, hi, hz0, hz1, hz2⟩ := info_parts infoKey
 exact run_copy_rowN (P := Tryz.prog) w 77 77 ty 90 g o dl dc ⟨b, off, none⟩ sl sc n cur t cs i0 Tryz.underlying77 hi hg hm (by rw [hz1]; exact hn) (fun j v hv => by rw [add_at]; exact hsrc j v hv) hfit h1

set_option maxHeartbeats 1600000 in
set_option maxRecDepth 100000 in
theorem insert_nil (k : KeyV) (g : Nat) (w : World) (hg : Keys w (some ⟨g, 0, none⟩) [k]) :
  Calls Tryz.prog 91 #[.slice none 0 0, .int .i64 0, .slice (some ⟨g, 0, none⟩) 1 1] w (InsRes w [k]) := by
 obtain ⟨c, cur, hr, h1, h2, h3⟩ := first_run w g 0 1 1 (flat [k]) rfl (fun j v hv => by rw [Nat.zero_add]; exact hg.flat j v hv) (by decide) (by decide)
 have HE : Hid (InsRes w [k] (.returned (.slice (some ⟨w.heap.size, 0, none⟩) 1 c)) (w.drew.alloc (.cells cur 90))) := Lib.hid
  ⟨_, c, rfl, Nat.le_refl _, h1, Keys.of_block (t := 90) (fr := (0, 0)) (heap_alloc_new w.drew _) h3, below_drew_alloc w _⟩
 have HR := Lib.hid hr
 clear hr hg h1 h2 h3
 go_enter Tryz.func91, Tryz.ntmps91
 go_wp2_with (at_builtin; refine wpList_append_eq rfl _ _ _ _ rfl _ _ _ rfl rfl (HR.out _) ?_)
 go_ret
 exact HE.out
set_option maxHeartbeats 1600000 in
set_option maxRecDepth 100000 in
theorem insert_end (xs : List KeyV) (k : KeyV) (b g : Nat) (w : World) (hx : Keys w (some ⟨b, 0, none⟩) xs) (hg : Keys w (some ⟨g, 0, none⟩) [k]) (h0 : 0 < xs.length) (hn : xs.length ≤ 999999) :
  Calls Tryz.prog 91 #[.slice (some ⟨b, 0, none⟩) xs.length xs.length, .int .i64 xs.length, .slice (some ⟨g, 0, none⟩) 1 1] w (InsRes w (xs ++ [k])) := by
 obtain ⟨c, cur, hr, h1, h2, h3⟩ := grow_run w b 0 xs.length (flat xs) (flat_len xs) (fun j v hv => by rw [Nat.zero_add]; exact hx.flat j v hv) g 0 1 1 (flat [k]) rfl (fun j v hv => by rw [Nat.zero_add]; exact hg.flat j v hv) xs.length (by omega) (by omega)
 have HE : Hid (InsRes w (xs ++ [k]) (.returned (.slice (some ⟨w.heap.size, 0, none⟩) (xs.length + 1) c)) (w.drew.alloc (.cells cur 90))) := Lib.hid
  ⟨_, c, by rw [List.length_append]; rfl, Nat.le_refl _, by rw [List.length_append]; exact h1, Keys.of_block (t := 90) (fr := (0, 0)) (heap_alloc_new w.drew _) (by rw [flat_append]; exact h3), below_drew_alloc w _⟩
 have HR := Lib.hid hr
 clear hr hg h1 h2 h3 hx
 generalize xs.length = n at *
 have q1 : (0 : Int) ≤ n := by omega
 go_enter Tryz.func91, Tryz.ntmps91
 go_wp2_with (at_builtin; refine wpList_append_eq rfl _ _ _ _ rfl _ _ _ rfl rfl (HR.out _) ?_)
 go_ret
 exact HE.out
set_option maxHeartbeats 1600000 in
set_option maxRecDepth 100000 in
theorem insert_mid (xs : List KeyV) (k : KeyV) (i b g : Nat) (w : World) (hx : Keys w (some ⟨b, 0, none⟩) xs) (hg : Keys w (some ⟨g, 0, none⟩) [k]) (hbl : b < w.heap.size) (hgl : g < w.heap.size) (hi : i < xs.length) (hn : xs.length ≤ 999999) :
  Calls Tryz.prog 91 #[.slice (some ⟨b, 0, none⟩) xs.length xs.length, .int .i64 i, .slice (some ⟨g, 0, none⟩) 1 1] w (InsRes w (insK xs i k)) := by
 obtain ⟨q, hq⟩ : ∃ q : Nat, (xs.length : Int) + 1 - i = q := ⟨xs.length + 1 - i, by omega⟩
 have hiq : i + q = xs.length + 1 := by omega
 have hf1 : (flat (xs.take i)).length = i * 6 := by rw [flat_len, List.length_take, Nat.min_eq_left (by omega)]
 have hf2 : (flat (xs.drop i)).length = (xs.length - i) * 6 := by rw [flat_len, List.length_drop]
 have hfx : flat xs = flat (xs.take i) ++ flat (xs.drop i) := by rw [← flat_append, List.take_append_drop]
 have hs1 : ∀ (j : Nat) (v : Value), (flat (xs.take i))[j]? = some v → w.cell? ⟨b, 0 + j, none⟩ = some v := fun j v hv => by
  rw [Nat.zero_add]
  have hj : j < (flat (xs.take i)).length := (List.getElem?_eq_some_iff.1 hv).1
  exact hx.flat j v (by rw [hfx, List.getElem?_append_left hj]; exact hv)
 have hs2 : ∀ (j : Nat) (v : Value), (flat (xs.drop i))[j]? = some v → w.cell? ⟨b, i * 6 + j, none⟩ = some v := fun j v hv =>
  hx.flat _ v (by rw [hfx, List.getElem?_append_right (by omega), show i * 6 + j - (flat (xs.take i)).length = j by omega]; exact hv)
 have hs3 : ∀ (j : Nat) (v : Value), (flat [k])[j]? = some v → w.cell? ⟨g, 0 + j, none⟩ = some v := fun j v hv => by rw [Nat.zero_add]; exact hg.flat j v hv
 obtain ⟨c, cur, hr, h1, h2, h3⟩ := zeros_run w b 0 i (flat (xs.take i)) hf1 hs1 q (by omega) xs.length (by omega) (by omega)
 rw [hiq] at hr h1
 have hk6 : (flat [k]).length = 6 := rfl
 have fit1 : i * 6 + (flat [k]).length ≤ cur.size := by rw [hk6]; omega
 have hz1 : (over cur (i * 6) (flat [k])).size = cur.size := over_size fit1
 have fit2 : (i + 1) * 6 + (flat (xs.drop i)).length ≤ (over cur (i * 6) (flat [k])).size := by rw [hz1, hf2]; omega
 -- the two copies, in any world whose heap is that one
 have HC1 : Hid (∀ W : World, W.heap = (w.drew.alloc (.cells cur 90)).heap → ∀ ty, (Builtin.copy_ #[77, 77] ty #[.slice (some ⟨w.heap.size, i * 6, none⟩) (xs.length + 1 - i) (c - i), .slice (some ⟨g, 0, none⟩) 1 1]).run Tryz.prog W = .ok (goInt 1) (W.setRow w.heap.size (over cur (i * 6) (flat [k])))) := Lib.hid fun W hW ty => by
  have hb : Below w.heap.size w (w.drew.alloc (.cells cur 90)) := below_drew_alloc w _
  have hc : ∀ p : Addr, W.cell? p = (w.drew.alloc (.cells cur 90)).cell? p := fun p => by unfold World.cell?; rw [hW]
  exact copy_run W w.heap.size (i * 6) _ _ g 0 1 1 1 (flat [k]) cur 90 (by rw [hW]; exact heap_alloc_new w.drew _) (by show min 1 _ = 1; omega) rfl (fun j v hv => by rw [hc, hb.cell (p := ⟨g, 0 + j, none⟩) hgl]; exact hs3 j v hv) fit1 (flat_one _) ty
 have HC2 : Hid (∀ W : World, W.heap = ((w.drew.alloc (.cells cur 90)).setRow w.heap.size (over cur (i * 6) (flat [k]))).heap → ∀ ty, (Builtin.copy_ #[77, 77] ty #[.slice (some ⟨w.heap.size, (i + 1) * 6, none⟩) (xs.length + 1 - (i + 1)) (c - (i + 1)), .slice (some ⟨b, i * 6, none⟩) (xs.length - i) (xs.length - i)]).run Tryz.prog W = .ok (goInt ((xs.length - i : Nat) : Int)) (W.setRow w.heap.size (over (over cur (i * 6) (flat [k])) ((i + 1) * 6) (flat (xs.drop i))))) := Lib.hid fun W hW ty => by
  have hb : Below w.heap.size w ((w.drew.alloc (.cells cur 90)).setRow w.heap.size (over cur (i * 6) (flat [k]))) := below_setRow (below_drew_alloc w _) (Nat.le_refl _) _
  have hc : ∀ p : Addr, W.cell? p = ((w.drew.alloc (.cells cur 90)).setRow w.heap.size (over cur (i * 6) (flat [k]))).cell? p := fun p => by unfold World.cell?; rw [hW]
  exact copy_run W w.heap.size ((i + 1) * 6) _ _ b (i * 6) _ _ (xs.length - i) (flat (xs.drop i)) _ 90 (by rw [hW]; exact setRow_heap _ _ cur _ _ _ (heap_alloc_new w.drew _)) (by show min _ _ = _; omega) hf2 (fun j v hv => by rw [hc, hb.cell (p := ⟨b, i * 6 + j, none⟩) hbl]; exact hs2 j v hv) fit2 (flat_one _) ty
 have HE : Hid (∀ W : World, W.heap = (((w.drew.alloc (.cells cur 90)).setRow w.heap.size (over cur (i * 6) (flat [k]))).setRow w.heap.size (over (over cur (i * 6) (flat [k])) ((i + 1) * 6) (flat (xs.drop i)))).heap → Below w.heap.size w W → InsRes w (insK xs i k) (.returned (.slice (some ⟨w.heap.size, 0, none⟩) (xs.length + 1) c)) W) := Lib.hid fun W hW hbW => by
  refine ⟨_, c, ?_, Nat.le_refl _, ?_, Keys.of_block (t := 90) (fr := (0, 0)) (by rw [hW]; exact setRow_heap _ _ _ _ _ _ (setRow_heap _ _ cur _ _ _ (heap_alloc_new w.drew _))) ?_, hbW⟩
  ·have : (insK xs i k).length = xs.length + 1 := by unfold insK; simp; omega
   rw [this]
  ·have : (insK xs i k).length = xs.length + 1 := by unfold insK; simp; omega
   rw [this]; exact h1
  ·intro j v hv
   have e : flat (insK xs i k) = flat (xs.take i) ++ (flat [k] ++ flat (xs.drop i)) := by
    unfold insK; rw [flat_append, show k :: xs.drop i = [k] ++ xs.drop i from rfl, flat_append]
   rw [e] at hv
   by_cases hj1 : j < i * 6
   ·rw [List.getElem?_append_left (by omega)] at hv
    rw [over_out fit2 j (Or.inl (by omega)), over_out fit1 j (Or.inl hj1)]
    exact h3 j v hv
   ·rw [List.getElem?_append_right (by omega), hf1] at hv
    by_cases hj2 : j < (i + 1) * 6
    ·rw [List.getElem?_append_left (by omega)] at hv
     rw [over_out fit2 j (Or.inl hj2), show j = i * 6 + (j - i * 6) by omega]
     exact over_in fit1 _ v hv
    ·rw [List.getElem?_append_right (by omega), hk6] at hv
     rw [show j = (i + 1) * 6 + (j - i * 6 - 6) by omega]
     exact over_in fit2 _ v hv
 have HR := Lib.hid hr
 clear hr h2 h3 hs1 hs2 hs3 hf1 hf2 hfx fit1 fit2 hz1 hk6 hx hg
 generalize xs.length = n at *
 have hic : i + 1 ≤ c := by omega
 have q1 : (0 : Int) ≤ i := by omega
 have q2 : (i : Int) < n := by omega
 have q3 : (i : Int) ≤ n := by omega
 have q4 : ((i : Int) == n) = false := beq_eq_false_iff_ne.2 (by omega)
 have q5 : (n : Int) < n + 1 := by omega
 have hc1 := HC1.out (w.alloc (.cells cur 90)).drew rfl
 have hiI : (i : Int) + 1 ≤ n + 1 := by omega
 have hiJ : (0 : Int) ≤ (i : Int) + 1 := by omega
 have hwr : IntKind.i64.wrap ((i : Int) + 1) = (i : Int) + 1 := by rw [IntKind.wrap_i64]; omega
 have hne : ¬ c = i + 1 := by omega
 have hne2 : ¬ n = i := by omega
 generalize over cur (i * 6) (flat [k]) = X1 at *
 generalize over X1 ((i + 1) * 6) (flat (xs.drop i)) = X2 at *
 have HC3 : Hid (∀ W : World, W = (w.alloc (.cells cur 90)).drew.setRow w.heap.size X1 → ∀ ty, (Builtin.copy_ #[77, 77] ty #[.slice (some ⟨w.heap.size, (i + 1) * 6, none⟩) (n - i) (c - (i + 1)), .slice (some ⟨b, i * 6, none⟩) (n - i) (n - i)]).run Tryz.prog W.drew = .ok (goInt ((n - i : Nat) : Int)) (W.drew.setRow w.heap.size X2)) := Lib.hid fun W hW => by
  subst hW
  have h := HC2.out ((w.alloc (.cells cur 90)).drew.setRow w.heap.size X1).drew rfl
  rw [show n + 1 - (i + 1) = n - i by omega] at h
  exact h
 have HE3 : Hid (∀ W : World, W = (w.alloc (.cells cur 90)).drew.setRow w.heap.size X1 → InsRes w (insK xs i k) (.returned (.slice (some ⟨w.heap.size, 0, none⟩) (n + 1) c)) (W.drew.setRow w.heap.size X2)) := Lib.hid fun W hW => by
  subst hW
  refine HE.out _ rfl ⟨rfl, rfl, rfl, ?_, ?_⟩
  ·simp [World.setRow]
  ·intro k hk
   have hne : k ≠ w.heap.size := by omega
   rw [setRow_other _ _ _ _ hne]
   show ((w.alloc (.cells cur 90)).setRow w.heap.size X1).heap[k]? = _
   rw [setRow_other _ _ _ _ hne]
   exact (below_one w _).block k hk
 clear HC1 HC2 HE
 go_enter Tryz.func91, Tryz.ntmps91
 go_wp2_with (at_builtin; refine wpList_append_eq rfl _ _ _ _ rfl _ _ _ rfl rfl (HR.out _) ?_)
 have hC := HC3.out _ rfl
 have hE := HE3.out _ rfl
 generalize (w.alloc (.cells cur 90)).drew.setRow w.heap.size X1 = W1 at hC hE ⊢
 generalize w.heap.size = y at hC hE ⊢
 replace HC3 := Lib.hid hC
 replace HE3 := Lib.hid hE
 clear hC hE hc1
 have hcp := HC3.out
 go_region
 all_goals
  clear hcp
  go_wp2
  go_ret
  exact HE3.out
end Go.Proofs.YtlcgfdijohgnpaaGreatDoor
