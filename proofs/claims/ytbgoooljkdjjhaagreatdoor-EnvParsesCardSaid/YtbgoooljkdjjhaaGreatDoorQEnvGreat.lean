/-
  Bytes, EnvGreat.
-/
import Derived.Test.YtbgoooljkdjjhaaGreatDoorRows
import Derived.WalkKit
import Derived.ProofKit
import Derived.OpenShut
import Derived.WalkLawsBesides
import Derived.Lib.Hide
import Derived.Lib.ConvBytes
import Derived.Laws.IdiomStrings
import Derived.Laws.BytesArg
import Derived.Test.YtbgoooljkdjjhaaGreatDoorQEnvMath
namespace Go.Proofs.YtbgoooljkdjjhaaGreatDoor
open Go.ChangeShapes Go.WideShapes Go.ChangeAt Go.RowKit

/-- A byte as a value, and as a list of bytes. -/
def b8 (c : UInt8) : Value := .int .u8 (c.toNat : Int)
def str (l : List UInt8) : Value := .string ⟨l.toArray⟩
theorem str_self (s : ByteArray) : str s.data.toList = .string s := by unfold str; simp
theorem add_zero_at (g j : Nat) : (⟨g, 0, none⟩ : Addr).add j = ⟨g, j, none⟩ := by unfold Addr.add; split <;> simp_all

/-- Block g holds the bytes l from its head on, none of them frozen. -/
def Row8 (w : World) (g : Nat) (l : List UInt8) : Prop := ∀ j (hj : j < l.length), w.cell? ⟨g, j, none⟩ = some (.int .u8 (l[j].toNat : Int)) ∧ w.frozen? ⟨g, j, none⟩ = false

theorem Row8.set {w : World} {g : Nat} {l : List UInt8} (h : Row8 w g l) (k : Nat) (c : UInt8) : Row8 (w.setCell ⟨g, k, none⟩ (.int .u8 (c.toNat : Int))) g (l.set k c) := by
  intro j hj
  have hj' : j < l.length := by simpa using hj
  obtain ⟨h1, h2⟩ := h j hj'
  refine ⟨?_, by rw [World.frozen?_setCell]; exact h2⟩
  by_cases e : k = j
  · subst e
    rw [World.cell?_setCell_same _ _ _ h1]; simp
  · rw [World.cell?_setCell_other _ _ _ _ (by simp), h1]; simp [e]

theorem toBytes {P : Program} (ts tb te : TypeId) (w : World) (s : ByteArray) {u : TypeDesc} (hs : P.underlying ts = some u) (hb : P.underlying tb = some (.slice te)) (he : P.underlying te = some (.int .u8)) :
    ∃ cap W1, (convert ts tb (.string s)).run P w = .ok (.slice (some ⟨w.heap.size, 0, none⟩) s.size cap) W1 ∧ Row8 W1 w.heap.size s.data.toList ∧ Below w.heap.size w W1 ∧ w.heap.size < W1.heap.size ∧ s.size ≤ cap := by
  refine ⟨_, _, Lib.run_convert_string_bytes w ts tb te s hs hb he, fun j hj => ?_, ⟨rfl, rfl, rfl, ?_, fun k hk => Lib.bytesWorld_at_old w te s k hk⟩, by rw [Lib.bytesWorld_size]; omega, grownCap_ge _ _ _ _⟩
  · have hj' : j < s.size := by simpa using hj
    refine ⟨?_, ?_⟩
    · rw [Lib.bytesWorld_cell w te s j hj']
      simp [List.getD, List.getElem?_eq_getElem hj]
    · simp only [World.frozen?, Lib.bytesWorld_at_new]
      have : s.size ≤ (Lib.bytesCells w te s).size := by simp [Lib.bytesCells]
      simp
      omega
  · rw [Lib.bytesWorld_size]; omega

theorem ofBytes {P : Program} (ts tb te : TypeId) (w : World) (g cap n : Nat) (l : List UInt8) (hn : n = l.length) (hs : P.underlying ts = some .string) (hb : P.underlying tb = some (.slice te)) (he : P.underlying te = some (.int .u8)) (h : Row8 w g l) :
    (convert tb ts (.slice (some ⟨g, 0, none⟩) n cap)).run P w = .ok (.string ⟨l.toArray⟩) w := by
  subst hn
  exact run_convert_bytes_back w tb ts te ⟨g, 0, none⟩ cap l hb he hs fun j hj => by rw [add_zero_at]; exact (h j hj).1

/-- A slice of bytes of the call's own, begun in world w0. -/
structure Own8 (w0 w : World) (v : Value) (l : List UInt8) : Prop where
  own : w.ownsRow w0.heap.size 5 1 v l.length (l.map b8)
  below : Below w0.heap.size w0 w

theorem Own8.drew {w0 w : World} {v : Value} {l : List UInt8} (h : Own8 w0 w v l) : Own8 w0 w.drew v l := ⟨h.own.drew, h.below.drew⟩
theorem Own8.nil_ (w : World) : Own8 w w (.slice none 0 0) [] := ⟨World.ownsRow_nil _ _ _ _, Below.refl _ _⟩

theorem Own8.string {w0 w : World} {v : Value} {l : List UInt8} (h : Own8 w0 w v l) {P : Program} (ts tb : TypeId) (hs : P.underlying ts = some .string) (hb : P.underlying tb = some (.slice 5)) (he : P.underlying 5 = some (.int .u8)) :
    (convert tb ts v).run P w = .ok (str l) w := by
  have ho := h.own
  rcases ho.2 with ⟨rfl, hn⟩ | ⟨g, cap, cur, rfl, _⟩
  · have : l = [] := List.eq_nil_of_length_eq_zero hn
    subst this
    rw [run_convert_bytes_nil w tb 5 hb he 0 0 ts hs]; rfl
  · exact ofBytes ts tb 5 w g cap l.length l rfl hs hb he fun j hj => by
      have hc := ho.cellAt j (by simpa using hj)
      exact ⟨by rw [hc]; simp [b8, hj], ho.frozenAt j⟩

theorem info8 : (Tryz.prog.info? 5).map (fun i => (i.zero, i.size, i.bytes)) = some (some (.int .u8 0), 1, 1) := by kernel_rfl

/-- 'append(v, x, y ..)' of bytes that were laid in a new block. -/
theorem append8 {ops : Array Oper} {rest : List Oper} {o : Oper} {a : Act} {Q : Exit → Act → World → Prop} (hgd : o.guard = none) (s x : Operand)
    (ho : o.op = .call { callee := .builtin .append, args := #[s, x], argTypes := #[99, 99] })
    {w0 w : World} {v : Value} {l : List UInt8} (hown : Own8 w0 w v l) (hs : a.eval s = v) (news : List UInt8) (cs : Array Value) (hcs : cs = (news.map b8).toArray)
    {g m : Nat} (hx : a.eval x = .slice (some ⟨g, 0, none⟩) m m) (hg : g = w.heap.size) (hm : m = news.length) (hb : l.length + news.length ≤ 70368744177664)
    (h : ∀ v' w', Own8 w0 w' v' (l ++ news) → wpList Tryz.prog ops Q rest (a.put o.dst v') w') : wpList Tryz.prog ops Q (o :: rest) a (w.alloc (.cells cs 5)) := by
  subst hg hm hcs
  obtain ⟨i0, hi, hz0, hz1, hz2⟩ := info_parts info8
  refine wpList_append_own _ hgd s x 99 ho w0.heap.size 5 i0 (.int .u8 0) 1 1 Tryz.underlying99 hi hz0 hz1 hz2 rfl (by decide) v l.length (l.map b8) hs (hown.own.alloc _) ⟨w.heap.size, 0, none⟩ news.length news.length (news.map b8) hx (by simp) ?_ ?_ (by unfold maxLen; omega) (by omega) (by have := hown.below.size; simp; omega) ?_
  · intro j u hj
    rw [add_zero_at, World.cell?_alloc_at _ _ _ _ rfl]
    simpa using hj
  · intro u hu
    obtain ⟨c, _, rfl⟩ := List.mem_map.1 hu
    rfl
  · intro v' w' h1 h2 _
    refine h v' w' ⟨by simpa using h1, ?_⟩
    have hz := hown.below.size
    exact (hown.below.alloc hz _).grown h2 (by simp; omega) (fun k hk => (hown.own.lt k hk).1)

theorem Own8.alloc {w0 w : World} {v : Value} {l : List UInt8} (h : Own8 w0 w v l) (o : Obj) : Own8 w0 (w.alloc o) v l := ⟨h.own.alloc _, h.below.alloc h.below.size _⟩

/-- The same as one step of a region that draws its order. -/
theorem step8 {ops : Array Oper} {o : Oper} {a : Act} {K : Act → World → Prop} {Q : Exit → Act → World → Prop} {E : Prop} (hgd : o.guard = none) (s x : Operand)
    (ho : o.op = .call { callee := .builtin .append, args := #[s, x], argTypes := #[99, 99] })
    {w0 w : World} {v : Value} {l : List UInt8} (hown : Own8 w0 w v l) (hs : a.eval s = v) (news : List UInt8)
    {g m : Nat} (hx : a.eval x = .slice (some ⟨g, 0, none⟩) m m) (hm : m = news.length) (hsrc : ∀ j u, (news.map b8)[j]? = some u → w.cell? ((⟨g, 0, none⟩ : Addr).add j) = some u) (hb : l.length + news.length ≤ 70368744177664)
    (h : ∀ v' w', Own8 w0 w' v' (l ++ news) → K (a.put o.dst v') w') : if Region.wanted o (yielded ops a.tmps) = true then Oper.wp Tryz.prog o a w K Q else E := by
  subst hm
  have hw : Region.wanted o (yielded ops a.tmps) = true := by simp [Region.wanted, hgd]
  rw [if_pos hw]
  obtain ⟨i0, hi, hz0, hz1, hz2⟩ := info_parts info8
  refine wp_append_own _ s x 99 ho w0.heap.size 5 i0 (.int .u8 0) 1 1 Tryz.underlying99 hi hz0 hz1 hz2 rfl (by decide) v l.length (l.map b8) hs hown.own ⟨g, 0, none⟩ news.length news.length (news.map b8) hx (by simp) hsrc ?_ (by unfold maxLen; omega) (by omega) hown.below.size ?_
  · intro u hu
    obtain ⟨c, _, rfl⟩ := List.mem_map.1 hu
    rfl
  · intro v' w' h1 h2 _
    exact h v' w' ⟨by simpa using h1, hown.below.grown h2 hown.below.size (fun k hk => (hown.own.lt k hk).1)⟩

theorem src_new (w : World) (news : List UInt8) (t : TypeId) : ∀ j u, (news.map b8)[j]? = some u → (w.alloc (.cells (news.map b8).toArray t)).cell? ((⟨w.heap.size, 0, none⟩ : Addr).add j) = some u := by
  intro j u hj
  rw [add_zero_at, World.cell?_alloc_at _ _ _ _ rfl]
  simpa using hj

theorem src_new' (w : World) (news : List UInt8) (t : TypeId) {cs : Array Value} (hcs : cs = (news.map b8).toArray) : ∀ j u, (news.map b8)[j]? = some u → (w.alloc (.cells cs t)).cell? ((⟨w.heap.size, 0, none⟩ : Addr).add j) = some u := by
  subst hcs; exact src_new w news t

theorem Own8.made {w0 w w' : World} {n : Nat} (hb : Below w0.heap.size w0 w) (h1 : w'.ownsRow w0.heap.size 5 1 (.slice (some ⟨w.heap.size, 0, none⟩) 0 n) 0 []) (h2 : w.grownBy w' Option.none) : Own8 w0 w' (.slice (some ⟨w.heap.size, 0, none⟩) 0 n) [] :=
  ⟨h1, hb.grown h2 hb.size (fun k hk => by cases hk)⟩
end Go.Proofs.YtbgoooljkdjjhaaGreatDoor

namespace Go.Proofs.YtbgoooljkdjjhaaGreatDoor
open Go.ChangeShapes Go.WideShapes Go.ChangeAt Go.RowKit

/-- The first k bytes as they are called, the others as they were. -/
def upcTo (l : List UInt8) (k : Nat) : List UInt8 := (l.take k).map upc ++ l.drop k
theorem upcTo_length (l : List UInt8) (k : Nat) : (upcTo l k).length = l.length := by
  simp [upcTo]; omega
theorem upcTo_zero (l : List UInt8) : upcTo l 0 = l := by simp [upcTo]
theorem upcTo_all (l : List UInt8) (k : Nat) (h : l.length ≤ k) : upcTo l k = calledL l := by
  simp [upcTo, calledL, List.take_of_length_le h, List.drop_eq_nil_of_le h]
theorem upcTo_at (l : List UInt8) (k : Nat) (h : k < l.length) : (upcTo l k)[k]'(by rw [upcTo_length]; exact h) = l[k] := by
  simp only [upcTo]
  rw [List.getElem_append_right (by simp; omega)]
  simp [Nat.min_eq_left (Nat.le_of_lt h)]
theorem upcTo_succ (l : List UInt8) (k : Nat) (h : k < l.length) : (upcTo l k).set k (upc l[k]) = upcTo l (k + 1) := by
  unfold upcTo
  have hl : ((l.take k).map upc).length = k := by simp; omega
  rw [List.set_append_right _ _ (by omega), hl, Nat.sub_self, List.drop_eq_getElem_cons h, List.set_cons_zero, List.take_succ_eq_append_getElem h, List.map_append, List.append_assoc]
  rfl
theorem upcTo_same (l : List UInt8) (k : Nat) (h : k < l.length) (e : upc l[k] = l[k]) : upcTo l k = upcTo l (k + 1) := by
  rw [← upcTo_succ l k h, e]
  apply List.ext_getElem (by simp)
  intro i h1 h2
  rw [List.getElem_set]
  split
  · rename_i e'; subst e'; exact upcTo_at l k h
  · rfl
theorem upc_small (c : UInt8) (h : 97 ≤ c.toNat ∧ c.toNat ≤ 122) : ((upc c).toNat : Int) = c.toNat - 32 := by
  have := byte_all (p := fun c => !(decide (97 ≤ c.toNat) && decide (c.toNat ≤ 122)) || decide (((upc c).toNat : Int) = (c.toNat : Int) - 32)) (by decide +kernel) c
  simpa [h.1, h.2] using this
theorem upc_other (c : UInt8) (h : ¬ (97 ≤ c.toNat ∧ c.toNat ≤ 122)) (h2 : c.toNat ≠ 46) : upc c = c := by
  have := byte_all (p := fun c => (decide (97 ≤ c.toNat) && decide (c.toNat ≤ 122)) || decide (c.toNat = 46) || decide (upc c = c)) (by decide +kernel) c
  simp only [Bool.or_eq_true, Bool.and_eq_true, decide_eq_true_eq] at this
  rcases this with (h3 | h3) | h3
  · exact absurd h3 h
  · exact absurd h3 h2
  · exact h3
theorem upc_point (c : UInt8) (h : c.toNat = 46) : ((upc c).toNat : Int) = 95 := by
  have := byte_all (p := fun c => !decide (c.toNat = 46) || decide (((upc c).toNat : Int) = 95)) (by decide +kernel) c
  simpa [h] using this
theorem great_cell {wr : World} {g : Nat} {s : ByteArray} {k : Nat} (h : Row8 wr g (upcTo s.data.toList k)) (hk : k < s.size) : wr.cell? ⟨g, k, none⟩ = some (.int .u8 (s[k].toNat : Int)) ∧ wr.frozen? ⟨g, k, none⟩ = false := by
  obtain ⟨h1, h2⟩ := h k (by rw [upcTo_length]; simpa using hk)
  rw [upcTo_at s.data.toList k (by simpa using hk)] at h1
  exact ⟨h1, h2⟩
theorem great_set {wr : World} {g : Nat} {s : ByteArray} {k : Nat} (h : Row8 wr g (upcTo s.data.toList k)) (hk : k < s.size) (x : Int) (hx : x = ((upc s[k]).toNat : Int)) :
    Row8 (wr.setCell ⟨g, k, none⟩ (.int .u8 x)) g (upcTo s.data.toList (k + 1)) := by
  rw [hx, ← upcTo_succ s.data.toList k (by simpa using hk)]
  exact h.set k (upc s[k])
theorem great_skip {wr : World} {g : Nat} {s : ByteArray} {k : Nat} (h : Row8 wr g (upcTo s.data.toList k)) (hk : k < s.size) (e : upc s[k] = s[k]) : Row8 wr g (upcTo s.data.toList (k + 1)) := by
  rw [← upcTo_same s.data.toList k (by simpa using hk) e]; exact h
set_option maxHeartbeats 1600000 in
theorem great_any (s : ByteArray) (w : World) (hs : s.size ≤ maxLen) :
    Calls Tryz.prog 42 #[.string s] w fun e w' => e = .returned (.string (mkB (calledL s.data.toList))) ∧ Below w.heap.size w w' := by
  unfold maxLen at hs
  obtain ⟨cap, W1, hconv, hrow, hbel, hsz, hcap⟩ := toBytes (P := Tryz.prog) 9 99 5 w s Tryz.underlying9 Tryz.underlying99 Tryz.underlying5
  have HR := Lib.hid hrow
  clear hrow
  go_enter Tryz.func42, Tryz.ntmps42
  go_wp2
  clear hconv
  go_loopw [4] (fun i wr => ∃ k : Nat, k ≤ s.size ∧ i = .int .i64 k ∧ Hid (Row8 wr w.heap.size (upcTo s.data.toList k)) ∧ Below w.heap.size w wr ∧ w.heap.size < wr.heap.size) (fun i _ => s.size - (intOf i).toNat)
  case atStart => exact ⟨0, by omega, rfl, Lib.hid (by rw [upcTo_zero]; exact HR.out), hbel, hsz⟩
  case round =>
    clear HR hbel hsz
    obtain ⟨k, hk, rfl, HR, hb, hz⟩ := hrel
    by_cases hlt : k < s.size
    · obtain ⟨hc1, hc2⟩ := great_cell HR.out hlt
      have hby := byte_le s k hlt
      by_cases hc : 97 ≤ s[k].toNat ∧ s[k].toNat ≤ 122
      · obtain ⟨hg1, hg2⟩ := hc
        have hg1' : (97 : Int) ≤ (s[k].toNat : Int) := by omega
        have hg2' : (s[k].toNat : Int) ≤ 122 := by omega
        have hg3 : ¬ (s[k].toNat : Int) = 46 := by omega
        have HS : Hid (∀ x : Int, x = (s[k].toNat : Int) - 32 → Row8 (wr.setCell ⟨w.heap.size, k, none⟩ (.int .u8 x)) w.heap.size (upcTo s.data.toList (k + 1)) ∧ (wr.setCell ⟨w.heap.size, k, none⟩ (.int .u8 x)).cell? ⟨w.heap.size, k, none⟩ = some (.int .u8 x)) := Lib.hid fun x hx => ⟨great_set HR.out hlt x (by rw [upc_small _ ⟨hg1, hg2⟩]; exact hx), World.cell?_setCell_same _ _ _ hc1⟩
        have hne : ¬ ((s[k].toNat : Int) - 32 = 46) := by omega
        have hc4 := (HS.out _ rfl).2
        go_wp2
        go_roundw
        case rel => exact ⟨k + 1, by omega, by go_num, Lib.hid (HS.out _ (by omega)).1, hb.setCell (Nat.le_refl _) _, by simpa using hz⟩
        case measure => simp [intOf]; omega
      · by_cases hp : s[k].toNat = 46
        · have hp1 : (s[k].toNat : Int) = 46 := by omega
          have HS := Lib.hid (great_set HR.out hlt 95 (by rw [upc_point _ hp]))
          have hlt97 : (s[k].toNat : Int) < 97 := by omega
          go_wp2
          go_roundw
          case rel => exact ⟨k + 1, by omega, by go_num, HS, hb.setCell (Nat.le_refl _) _, by simpa using hz⟩
          case measure => simp [intOf]; omega
        · have hp1 : ¬ (s[k].toNat : Int) = 46 := by omega
          have HS := Lib.hid (great_skip HR.out hlt (upc_other _ hc hp))
          have hor : (s[k].toNat : Int) < 97 ∨ 122 < (s[k].toNat : Int) := by omega
          rcases hor with ho | ho
          all_goals
            go_wp2
            go_roundw
            case rel => exact ⟨k + 1, by omega, by go_num, HS, hb, hz⟩
            case measure => simp [intOf]; omega
    · have hback := ofBytes (P := Tryz.prog) 9 99 5 wr w.heap.size cap s.size (calledL s.data.toList) (by simp [calledL]) Tryz.underlying9 Tryz.underlying99 Tryz.underlying5
        (by rw [← upcTo_all s.data.toList k (by simp; omega)]; exact HR.out)
      clear HR
      go_wp2
      go_ret
      exact ⟨rfl, hb⟩
/-- What Name answers. -/
def nameV (l : List UInt8) : Value := if nameB l = true then .tuple #[.string (mkB (calledL l)), .int .i64 0] else .tuple #[.string ⟨#[]⟩, .int .i64 1]
set_option maxRecDepth 100000 in
theorem erefName_any (s : ByteArray) (w : World) (hs : s.size ≤ 4294967280) :
    Calls Tryz.prog 18 #[.string s] w fun e w' => e = .returned (nameV s.data.toList) ∧ Below w.heap.size w w' := by
  have HN : Hid (Calls Tryz.prog 41 #[.string s] w fun e w' => e = .returned (.bool (nameB s.data.toList)) ∧ w = w') := Lib.hid (refIsName_any s w (by omega))
  have HC := Lib.hid (great_any s w (by unfold maxLen; omega))
  have HB := Lib.hid (Below.refl w.heap.size w)
  unfold nameV
  clear hs
  generalize mkB (calledL s.data.toList) = V at HC ⊢
  cases hn : nameB s.data.toList with
  | true =>
    rw [hn] at HN
    rw [if_pos rfl]
    clear hn
    go_enter Tryz.func18, Tryz.ntmps18
    go_wp2_with fail
    refine HN.out.mono ?_
    rintro e w1 ⟨rfl, rfl⟩
    go_wp2_with fail
    refine HC.out.mono ?_
    rintro e w2 ⟨rfl, hb⟩
    have HB2 := Lib.hid hb
    clear hb
    go_wp2
    go_ret2
    exact ⟨rfl, HB2.out⟩
  | false =>
    rw [hn] at HN
    rw [if_neg (by decide)]
    clear hn
    go_enter Tryz.func18, Tryz.ntmps18
    go_wp2_with fail
    refine HN.out.mono ?_
    rintro e w1 ⟨rfl, rfl⟩
    go_wp2
    go_ret2
    exact ⟨rfl, HB.out⟩
end Go.Proofs.YtbgoooljkdjjhaaGreatDoor
