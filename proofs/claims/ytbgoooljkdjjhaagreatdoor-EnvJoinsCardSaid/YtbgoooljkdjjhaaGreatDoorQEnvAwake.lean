/-
  GivLit, EnvAwake.
-/
import Derived.Test.YtbgoooljkdjjhaaGreatDoorQGivOwn
import Derived.Laws.StructEq
import Derived.Test.YtbgoooljkdjjhaaGreatDoorQEnvParse
namespace Go.Proofs.YtbgoooljkdjjhaaGreatDoor
open Go.ChangeShapes Go.WideShapes Go.ChangeAt Go.RowKit

theorem geql_self (g : GivV) (w : World) : (binOp .eql 27 (.agg #[.string g.name, .string g.text, .int .i64 g.at_]) (.agg #[.string g.name, .string g.text, .int .i64 g.at_])).run Tryz.prog w = .ok (.bool true) w := by
  have u3 := Tryz.underlying3
  have u9 := Tryz.underlying9
  have hS : Tryz.prog.underlying 27 = some (.struct (Tryz.prog.fieldsOf 27)) := by kernel_rfl
  have hp : Tryz.prog.stoodInHeld 27 = false := by kernel_rfl
  rw [run_eql_struct, show (10000 : Nat) = 9999 + 1 from rfl, run_equalIn_agg w 9999 27 _ _ hS hp]
  simp only [Program.fieldsOf, Tryz.underlying27]
  go_simp
theorem geql_guard (x y : Operand) (xs ys : Array Value) (w : World) : (eqGuard .eql 27 x y (.agg xs) (.agg ys)).run Tryz.prog w = .ok () w :=
  run_eqGuard_agg w .eql 27 x y xs ys (by kernel_rfl)
theorem TxAt.of_own {w : World} {B : Nat} {v : Value} {ts : List ByteArray} (h : w.ownsRow B 9 1 v ts.length (ts.map Value.string)) : ∃ x c, v = .slice x ts.length c ∧ TxAt w x ts := by
  rcases h.2 with ⟨h1, h2⟩ | ⟨g, cap, cur, h1, _, hg, _⟩
  · refine ⟨none, 0, by rw [h1, h2], fun k hk => ?_⟩
    omega
  · refine ⟨_, _, h1, fun k hk => ⟨g, 0, rfl, (Array.getElem?_eq_some_iff.1 hg).1, ?_⟩⟩
    have hv := h
    rw [h1] at hv
    rw [Nat.zero_add, hv.cellAt k (by simpa using hk), List.getElem?_map, List.getElem?_eq_getElem hk]; rfl
theorem texts_lit (W : World) (ts : List ByteArray) (cs : Array Value) (hcs : cs = (ts.map Value.string).toArray) (t : TypeId) : TxAt (W.alloc (Obj.cells cs t)) (some ⟨W.heap.size, 0, none⟩) ts := fun k hk => by
  subst hcs
  refine ⟨W.heap.size, 0, rfl, by simp, ?_⟩
  rw [Nat.zero_add, World.cell?_alloc_at _ _ _ _ rfl]
  simp [hk]
theorem givs_lit (W : World) (gs : List GivV) (cs : Array Value) (hcs : cs = (gFlat gs).toArray) (t : TypeId) : Givs (W.alloc (Obj.cells cs t)) (some ⟨W.heap.size, 0, none⟩) gs := by
  subst hcs
  refine Givs.of_cells (by simp) fun j u hj => ?_
  rw [Nat.zero_add, World.cell?_alloc_at _ _ _ _ rfl]
  simpa using hj
theorem gneq_self (g : GivV) (w : World) : (binOp .neq 27 (.agg #[.string g.name, .string g.text, .int .i64 g.at_]) (.agg #[.string g.name, .string g.text, .int .i64 g.at_])).run Tryz.prog w = .ok (.bool false) w := by
  have u3 := Tryz.underlying3
  have u9 := Tryz.underlying9
  have hS : Tryz.prog.underlying 27 = some (.struct (Tryz.prog.fieldsOf 27)) := by kernel_rfl
  have hp : Tryz.prog.stoodInHeld 27 = false := by kernel_rfl
  rw [run_neq_struct, show (10000 : Nat) = 9999 + 1 from rfl, run_equalIn_agg w 9999 27 _ _ hS hp]
  simp only [Program.fieldsOf, Tryz.underlying27]
  go_simp
theorem gneq_guard (x y : Operand) (xs ys : Array Value) (w : World) : (eqGuard .neq 27 x y (.agg xs) (.agg ys)).run Tryz.prog w = .ok () w :=
  run_eqGuard_agg w .neq 27 x y xs ys (by kernel_rfl)
end Go.Proofs.YtbgoooljkdjjhaaGreatDoor

namespace Go.Proofs.YtbgoooljkdjjhaaGreatDoor
open Go.ChangeShapes Go.WideShapes Go.ChangeAt Go.RowKit

def stdN : List ByteArray := stdL.map (·.name)
theorem std_names : ∀ k ∈ stdL, nameB k.name.data.toList = true := by
  have h : (stdL.all fun k => nameB k.name.data.toList) = true := by kernel_rfl
  exact fun k hk => List.all_eq_true.1 h k hk
theorem eparse_lit (ps : List ByteArray) (R : List GivV × Int × Int) (hp : envP stdN ps = R) (n : Nat) (hn : ps.length = n) (S : Nat) (sx : Option Addr) (sc : Nat) (W : World) (t : TypeId) (g : Nat) (hg : g = W.heap.size) (hS : SetAt W S sx sc stdL) (cs : Array Value) (hcs : cs = (ps.map Value.string).toArray) (hn2 : n ≤ 100) (hz : ∀ p ∈ ps, p.size ≤ 2147483647) (hm : MaxI W) :
    Calls Tryz.prog 23 #[.pointer (some ⟨S, 0, none⟩), .slice (some ⟨g, 0, none⟩) n n] (W.alloc (Obj.cells cs t)) fun e w' => ∃ x c, e = .returned (.tuple #[.slice x R.1.length c, .int .i64 R.2.1, .int .i64 R.2.2]) ∧ Below W.heap.size W w' ∧ Givs w' x R.1 := by
  subst hn hg
  have hb := below_one W (Obj.cells cs t)
  have hl : stdL.length ≤ 1000 := by decide +kernel
  refine (eparse_any stdL S sx sc ps _ _ _ (hS.below hb) hl std_names (texts_lit W ps cs hcs t) (by omega) hz (hm.below hb)).mono ?_
  rintro e w' ⟨v, rfl, ho⟩
  have hp' : envP (stdL.map (·.name)) ps = R := hp
  rw [hp'] at ho ⊢
  obtain ⟨x, c, rfl, h⟩ := Givs.of_own ho.own rfl
  exact ⟨x, c, rfl, hb.trans (ho.below.mono hb.size), h⟩
set_option maxRecDepth 100000 in
theorem eparse_nil (x : Option Addr) (n c : Nat) (w : World) :
    Calls Tryz.prog 23 #[.pointer none, .slice x n c] w fun e w' => e = .returned (.tuple #[.slice none 0 0, .int .i64 1, .int .i64 0]) ∧ w = w' := by
  go_enter Tryz.func23, Tryz.ntmps23
  go_wp2
  go_ret3
  exact ⟨rfl, rfl⟩
def gE1 : GivV := ⟨⟨#[110, 101, 116, 46, 112, 111, 114, 116]⟩, ⟨#[57, 48, 48, 49]⟩, 1⟩
def gE2 : GivV := ⟨⟨#[110, 101, 116, 46, 112, 111, 114, 116]⟩, ⟨#[]⟩, 3⟩
def eP1 : List ByteArray := [⟨#[72, 79, 77, 69, 61, 47, 114, 111, 111, 116]⟩, ⟨#[78, 69, 84, 95, 80, 79, 82, 84, 61, 57, 48, 48, 49]⟩, ⟨#[80, 79, 82, 84, 61, 49]⟩, ⟨#[78, 69, 84, 95, 80, 79, 82, 84, 61]⟩]
def eP2 : List ByteArray := [⟨#[65, 61, 49]⟩, ⟨#[78, 69, 84, 95, 80, 79, 82, 84, 83, 61, 49]⟩]
def eP3 : List ByteArray := [⟨#[65, 61, 49]⟩, ⟨#[66]⟩]
theorem ep1 : envP stdN eP1 = ([gE1, gE2], 0, 0) := by kernel_rfl
theorem ep2 : envP stdN eP2 = ([], 81, 1) := by kernel_rfl
theorem ep3 : envP stdN eP3 = ([], 80, 1) := by kernel_rfl
theorem nv1 : nameV (⟨#[110, 101, 116, 46, 112, 111, 114, 116]⟩ : ByteArray).data.toList = .tuple #[.string ⟨#[78, 69, 84, 95, 80, 79, 82, 84]⟩, .int .i64 0] := by kernel_rfl
theorem nv2 : nameV (⟨#[78, 101, 116]⟩ : ByteArray).data.toList = .tuple #[.string ⟨#[]⟩, .int .i64 1] := by kernel_rfl
set_option maxHeartbeats 3200000 in
set_option maxRecDepth 100000 in
theorem eawake_any (w : World) (hT : Tab w) (hU : Units w) (hI : MaxI w) :
    Calls Tryz.prog 16 #[] w fun e w' => e = .returned (.bool true) ∧ Below w.heap.size w w' := by
  have HN1 : Hid (Calls Tryz.prog 17 #[.string ⟨#[110, 101, 116, 46, 112, 111, 114, 116]⟩] w fun e w' => e = .returned (.tuple #[.string ⟨#[78, 69, 84, 95, 80, 79, 82, 84]⟩, .int .i64 0]) ∧ Below w.heap.size w w') := Lib.hid (by
    have := ename_any ⟨#[110, 101, 116, 46, 112, 111, 114, 116]⟩ w (by decide) hT hI
    rw [nv1] at this
    exact this)
  have HN2 : Hid (∀ W, Below w.heap.size w W → Calls Tryz.prog 17 #[.string ⟨#[78, 101, 116]⟩] W fun e w' => e = .returned (.tuple #[.string ⟨#[]⟩, .int .i64 1]) ∧ Below W.heap.size W w') := Lib.hid fun W hb => by
    have := ename_any ⟨#[78, 101, 116]⟩ W (by decide) (hT.below hb) (hI.below hb)
    rw [nv2] at this
    exact this
  have HST : Hid (∀ W, Below w.heap.size w W → Calls Tryz.prog 29 #[] W fun e w' => ∃ S, e = .returned (.pointer (some ⟨S, 0, none⟩)) ∧ SetIn W w' S stdL) := Lib.hid fun W hb => standard_any W (hT.below hb) (hU.below hb) (hI.below hb)
  have HMX : Hid (∀ W, Below w.heap.size w W → MaxI W) := Lib.hid fun W hb => hI.below hb
  clear hT hU hI
  go_enter Tryz.func16, Tryz.ntmps16
  go_wp2_with fail
  refine HN1.out.mono ?_
  rintro e w1 ⟨rfl, hb1⟩
  have HB1 := Lib.hid hb1
  clear hb1 HN1
  go_wp2_with fail
  refine (HN2.out _ HB1.out).mono ?_
  rintro e w2 ⟨rfl, hb2⟩
  have HB2 := Lib.hid (HB1.out.trans (hb2.mono HB1.out.size))
  clear hb2 HN2 HB1
  go_wp2_with fail
  refine (HST.out _ HB2.out).mono ?_
  rintro e w3 ⟨S, rfl, hs3⟩
  have HS3 := Lib.hid hs3
  have HB3 := Lib.hid (HB2.out.trans (hs3.below.mono HB2.out.size))
  clear hs3 HST HB2
  go_wp2_with fail
  obtain ⟨sx3, sc3, hsa3⟩ := HS3.out.set
  refine (eparse_lit eP1 _ ep1 4 rfl S sx3 sc3 _ _ _ rfl hsa3 _ rfl (by decide) (by decide) (HMX.out _ HB3.out)).mono ?_
  clear hsa3
  rintro e w4 ⟨x4, c4, rfl, hb4, hg4⟩
  have HS4 := Lib.hid (HS3.out.below' hb4)
  have HB4 := Lib.hid (HB3.out.trans (hb4.mono HB3.out.size))
  have HG4 := Lib.hid hg4
  clear hb4 hg4 HS3 HB3
  go_wp2_with fail
  obtain ⟨sx4, sc4, hsa4⟩ := HS4.out.set
  refine (eparse_lit eP2 _ ep2 2 rfl S sx4 sc4 _ _ _ rfl hsa4 _ rfl (by decide) (by decide) (HMX.out _ HB4.out)).mono ?_
  clear hsa4
  rintro e w5 ⟨x5, c5, rfl, hb5, _⟩
  have HS5 := Lib.hid (HS4.out.below' hb5)
  have HB5 := Lib.hid (HB4.out.trans (hb5.mono HB4.out.size))
  have HG5 := Lib.hid (HG4.out.below hb5)
  clear hb5 HG4 HS4 HB4
  go_wp2_with fail
  obtain ⟨sx5, sc5, hsa5⟩ := HS5.out.set
  refine (eparse_lit eP3 _ ep3 2 rfl S sx5 sc5 _ _ _ rfl hsa5 _ rfl (by decide) (by decide) (HMX.out _ HB5.out)).mono ?_
  clear hsa5
  rintro e w6 ⟨x6, c6, rfl, hb6, _⟩
  have HB6 := Lib.hid (HB5.out.trans (hb6.mono HB5.out.size))
  have hg6 := HG5.out.below hb6
  clear hb6 HG5 HS5 HB5
  go_wp2_with fail
  refine (eparse_nil _ _ _ _).mono ?_
  rintro e w7 ⟨rfl, rfl⟩
  obtain ⟨b, off, rfl, _, a0, a1, a2⟩ := hg6 0 (by decide)
  obtain ⟨b', off', ex, _, b0, b1, b2⟩ := hg6 1 (by decide)
  obtain ⟨rfl, rfl⟩ : b = b' ∧ off = off' := by simpa using ex
  have hq1 := geql_self gE1
  have hq2 := geql_self gE2
  have hgd := geql_guard
  unfold gE1 at a0 a1 a2 hq1
  unfold gE2 at b0 b1 b2 hq2
  simp at a0 a1 a2 b0 b1 b2 hq1 hq2
  clear hg6 ex
  go_wp2
  go_ret
  exact ⟨rfl, HB6.out⟩
end Go.Proofs.YtbgoooljkdjjhaaGreatDoor
