/-
  Bytes.
-/
import Derived.Test.YtlommddabccdeaaGreatDoorRows
import Derived.WalkKit
import Derived.ProofKit
import Derived.OpenShut
import Derived.WalkLawsBesides
import Derived.Lib.Hide
import Derived.Lib.ConvBytes
import Derived.Laws.IdiomStrings
import Derived.Laws.BytesArg
namespace Go.Proofs.YtlommddabccdeaaGreatDoor
open Go.ChangeShapes Go.WideShapes Go.ChangeAt Go.RowKit

def b8 (c : UInt8) : Value := .int .u8 (c.toNat : Int)
def str (l : List UInt8) : Value := .string ⟨l.toArray⟩
theorem str_self (s : ByteArray) : str s.data.toList = .string s := by unfold str; simp
theorem add_zero_at (g j : Nat) : (⟨g, 0, none⟩ : Addr).add j = ⟨g, j, none⟩ := by unfold Addr.add; split <;> simp_all

def Row8 (w : World) (g : Nat) (l : List UInt8) : Prop := ∀ j (hj : j < l.length), w.cell? ⟨g, j, none⟩ = some (.int .u8 (l[j].toNat : Int)) ∧ w.frozen? ⟨g, j, none⟩ = false

theorem Row8.set {w : World} {g : Nat} {l : List UInt8} (h : Row8 w g l) (k : Nat) (c : UInt8) : Row8 (w.setCell ⟨g, k, none⟩ (.int .u8 (c.toNat : Int))) g (l.set k c) := by
 intro j hj
 have hj' : j < l.length := by simpa using hj
 obtain ⟨h1, h2⟩ := h j hj'
 refine ⟨?_, by rw [World.frozen?_setCell]; exact h2⟩
 by_cases e : k = j
 ·subst e
  rw [World.cell?_setCell_same _ _ _ h1]; simp
 ·rw [World.cell?_setCell_other _ _ _ _ (by simp), h1]; simp [e]

theorem toBytes {P : Program} (ts tb te : TypeId) (w : World) (s : ByteArray) {u : TypeDesc} (hs : P.underlying ts = some u) (hb : P.underlying tb = some (.slice te)) (he : P.underlying te = some (.int .u8)) :
  ∃ cap W1, (convert ts tb (.string s)).run P w = .ok (.slice (some ⟨w.heap.size, 0, none⟩) s.size cap) W1 ∧ Row8 W1 w.heap.size s.data.toList ∧ Below w.heap.size w W1 ∧ w.heap.size < W1.heap.size ∧ s.size ≤ cap := by
 refine ⟨_, _, Lib.run_convert_string_bytes w ts tb te s hs hb he, fun j hj => ?_, ⟨rfl, rfl, rfl, ?_, fun k hk => Lib.bytesWorld_at_old w te s k hk⟩, by rw [Lib.bytesWorld_size]; omega, grownCap_ge _ _ _ _⟩
 ·have hj' : j < s.size := by simpa using hj
  refine ⟨?_, ?_⟩
  ·rw [Lib.bytesWorld_cell w te s j hj']
   simp [List.getD, List.getElem?_eq_getElem hj]
  ·simp only [World.frozen?, Lib.bytesWorld_at_new]
   have : s.size ≤ (Lib.bytesCells w te s).size := by simp [Lib.bytesCells]
   simp
   omega
 ·rw [Lib.bytesWorld_size]; omega

theorem ofBytes {P : Program} (ts tb te : TypeId) (w : World) (g cap n : Nat) (l : List UInt8) (hn : n = l.length) (hs : P.underlying ts = some .string) (hb : P.underlying tb = some (.slice te)) (he : P.underlying te = some (.int .u8)) (h : Row8 w g l) :
  (convert tb ts (.slice (some ⟨g, 0, none⟩) n cap)).run P w = .ok (.string ⟨l.toArray⟩) w := by
 subst hn
 exact run_convert_bytes_back w tb ts te ⟨g, 0, none⟩ cap l hb he hs fun j hj => by rw [add_zero_at]; exact (h j hj).1

structure Own8 (w0 w : World) (v : Value) (l : List UInt8) : Prop where
 own : w.ownsRow w0.heap.size 5 1 v l.length (l.map b8)
 below : Below w0.heap.size w0 w

theorem Own8.drew {w0 w : World} {v : Value} {l : List UInt8} (h : Own8 w0 w v l) : Own8 w0 w.drew v l := ⟨h.own.drew, h.below.drew⟩
theorem Own8.nil_ (w : World) : Own8 w w (.slice none 0 0) [] := ⟨World.ownsRow_nil _ _ _ _, Below.refl _ _⟩

theorem Own8.string {w0 w : World} {v : Value} {l : List UInt8} (h : Own8 w0 w v l) {P : Program} (ts tb : TypeId) (hs : P.underlying ts = some .string) (hb : P.underlying tb = some (.slice 5)) (he : P.underlying 5 = some (.int .u8)) :
  (convert tb ts v).run P w = .ok (str l) w := by
 have ho := h.own
 rcases ho.2 with ⟨rfl, hn⟩ | ⟨g, cap, cur, rfl, _⟩
 ·have : l = [] := List.eq_nil_of_length_eq_zero hn
  subst this
  rw [run_convert_bytes_nil w tb 5 hb he 0 0 ts hs]; rfl
 ·exact ofBytes ts tb 5 w g cap l.length l rfl hs hb he fun j hj => by
   have hc := ho.cellAt j (by simpa using hj)
   exact ⟨by rw [hc]; simp [b8, hj], ho.frozenAt j⟩

theorem info8 : (Tryz.prog.info? 5).map (fun i => (i.zero, i.size, i.bytes)) = some (some (.int .u8 0), 1, 1) := by kernel_rfl

theorem append8 {ops : Array Oper} {rest : List Oper} {o : Oper} {a : Act} {Q : Exit → Act → World → Prop} (hgd : o.guard = none) (s x : Operand)
  (ho : o.op = .call { callee := .builtin .append, args := #[s, x], argTypes := #[63, 63] })
  {w0 w : World} {v : Value} {l : List UInt8} (hown : Own8 w0 w v l) (hs : a.eval s = v) (news : List UInt8) (cs : Array Value) (hcs : cs = (news.map b8).toArray)
  {g m : Nat} (hx : a.eval x = .slice (some ⟨g, 0, none⟩) m m) (hg : g = w.heap.size) (hm : m = news.length) (hb : l.length + news.length ≤ 70368744177664)
  (h : ∀ v' w', Own8 w0 w' v' (l ++ news) → wpList Tryz.prog ops Q rest (a.put o.dst v') w') : wpList Tryz.prog ops Q (o :: rest) a (w.alloc (.cells cs 5)) := by
 subst hg hm hcs
 obtain ⟨i0, hi, hz0, hz1, hz2⟩ := info_parts info8
 refine wpList_append_own _ hgd s x 63 ho w0.heap.size 5 i0 (.int .u8 0) 1 1 Tryz.underlying63 hi hz0 hz1 hz2 rfl (by decide) v l.length (l.map b8) hs (hown.own.alloc _) ⟨w.heap.size, 0, none⟩ news.length news.length (news.map b8) hx (by simp) ?_ ?_ (by unfold maxLen; omega) (by omega) (by have := hown.below.size; simp; omega) ?_
 ·intro j u hj
  rw [add_zero_at, World.cell?_alloc_at _ _ _ _ rfl]
  simpa using hj
 ·intro u hu
  obtain ⟨c, _, rfl⟩ := List.mem_map.1 hu
  rfl
 ·intro v' w' h1 h2 _
  refine h v' w' ⟨by simpa using h1, ?_⟩
  have hz := hown.below.size
  exact (hown.below.alloc hz _).grown h2 (by simp; omega) (fun k hk => (hown.own.lt k hk).1)

theorem Own8.alloc {w0 w : World} {v : Value} {l : List UInt8} (h : Own8 w0 w v l) (o : Obj) : Own8 w0 (w.alloc o) v l := ⟨h.own.alloc _, h.below.alloc h.below.size _⟩

theorem src_new (w : World) (news : List UInt8) (t : TypeId) : ∀ j u, (news.map b8)[j]? = some u → (w.alloc (.cells (news.map b8).toArray t)).cell? ((⟨w.heap.size, 0, none⟩ : Addr).add j) = some u := by
 intro j u hj
 rw [add_zero_at, World.cell?_alloc_at _ _ _ _ rfl]
 simpa using hj

theorem Own8.made {w0 w w' : World} {n : Nat} (hb : Below w0.heap.size w0 w) (h1 : w'.ownsRow w0.heap.size 5 1 (.slice (some ⟨w.heap.size, 0, none⟩) 0 n) 0 []) (h2 : w.grownBy w' Option.none) : Own8 w0 w' (.slice (some ⟨w.heap.size, 0, none⟩) 0 n) [] :=
 ⟨h1, hb.grown h2 hb.size (fun k hk => by cases hk)⟩
end Go.Proofs.YtlommddabccdeaaGreatDoor
