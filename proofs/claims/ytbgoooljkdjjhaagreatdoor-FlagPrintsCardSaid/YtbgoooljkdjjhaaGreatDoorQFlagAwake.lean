/-
  FlagSteps, FlagAwake.
-/
import Derived.Test.YtbgoooljkdjjhaaGreatDoorQFlagParse
import Derived.Test.YtbgoooljkdjjhaaGreatDoorQGivOwn
namespace Go.Proofs.YtbgoooljkdjjhaaGreatDoor
open Go.ChangeShapes Go.WideShapes Go.ChangeAt Go.RowKit

def xB : ByteArray := ⟨#[120]⟩
def qB : ByteArray := ⟨#[45, 113]⟩
def pB : ByteArray := ⟨#[45, 112]⟩
def gA : GivV := ⟨⟨#[110, 101, 116, 46, 112, 111, 114, 116]⟩, ⟨#[57, 48, 48, 50]⟩, 0⟩
def gB : GivV := ⟨⟨#[98, 111, 111, 116, 46, 100, 114, 121]⟩, ⟨#[116, 114, 117, 101]⟩, 3⟩
def args1 : List ByteArray := [⟨#[45, 112]⟩, ⟨#[57, 48, 48, 50]⟩, ⟨#[120]⟩, ⟨#[45, 45, 98, 111, 111, 116, 46, 100, 114, 121]⟩, ⟨#[45, 104]⟩, ⟨#[45, 45]⟩, ⟨#[45, 113]⟩]
def args2 : List ByteArray := [⟨#[120]⟩, ⟨#[45, 112]⟩]
def T1 : Nat → Option Told
  | 0 => some ⟨[], [], false⟩
  | 2 => some ⟨[gA], [], false⟩
  | 3 => some ⟨[gA], [xB], false⟩
  | 4 => some ⟨[gA, gB], [xB], false⟩
  | 5 => some ⟨[gA, gB], [xB], true⟩
  | 7 => some ⟨[gA, gB], [xB, qB], true⟩
  | _ => none
def T2 : Nat → Option Told
  | 0 => some ⟨[], [], false⟩
  | 1 => some ⟨[], [xB], false⟩
  | _ => none
theorem std_p : ∃ k, letterK stdL ⟨#[112]⟩ = some k ∧ k.kind ≠ 1 ∧ k.name = gA.name := by
  have h : (letterK stdL ⟨#[112]⟩).map (fun k => (decide (k.kind ≠ 1), k.name)) = some (true, gA.name) := by kernel_rfl
  cases hl : letterK stdL ⟨#[112]⟩ with
  | none => rw [hl] at h; cases h
  | some k =>
    rw [hl] at h
    injection h with h
    injection h with h1 h2
    exact ⟨k, rfl, of_decide_eq_true h1, h2⟩
theorem std_dry : ∃ k, findK stdL gB.name = some k ∧ k.kind = 1 ∧ k.name = gB.name := by
  have h : (findK stdL gB.name).map (fun k => (decide (k.kind = 1), k.name)) = some (true, gB.name) := by kernel_rfl
  cases hl : findK stdL gB.name with
  | none => rw [hl] at h; cases h
  | some k =>
    rw [hl] at h
    injection h with h
    injection h with h1 h2
    exact ⟨k, rfl, of_decide_eq_true h1, h2⟩
theorem std_len : stdL.length ≤ 1000000 := by decide +kernel
theorem get1 (b : RB) (h : b.args = args1) (hk : 1 < b.args.length) : b.args[1] = ⟨#[57, 48, 48, 50]⟩ := by
  have : b.args[1]? = args1[1]? := by rw [h]
  rw [List.getElem?_eq_getElem hk] at this
  injection this
set_option maxHeartbeats 1600000 in
set_option maxRecDepth 100000 in
theorem steps1 (S : Nat) (x : Option Addr) (c : Nat) (w0 : World) (sx : Option Addr) (sc : Nat) (hS : SetAt w0 S sx sc stdL) (hs : Sorted stdL) (hM : MaxI w0) : StepOk args1 S x c T1 (fun _ _ => False) w0 := by
  intro B b W k t hbS _ _ hba hBw ht hk hat
  obtain ⟨gv, rv, hr, hb, hBW⟩ := hat
  have hb0 := hb.mono hBw
  have hSW := hS.below hb0
  rw [← hbS] at hSW
  have hMW := hM.below hb0
  have hlen : b.args.length = 7 := by rw [hba]; rfl
  have hk' : k = 0 ∨ k = 1 ∨ k = 2 ∨ k = 3 ∨ k = 4 ∨ k = 5 ∨ k = 6 := by
    have : args1.length = 7 := rfl
    omega
  rcases hk' with rfl | rfl | rfl | rfl | rfl | rfl | rfl
  · obtain rfl : (⟨[], [], false⟩ : Told) = t := by injection ht
    obtain ⟨k1, hl, hk1, hn1⟩ := std_p
    rw [show args1[0] = ⟨#[45, 112]⟩ from rfl]
    have h1 := read_letters b W ⟨#[45, 112]⟩ ⟨#[112]⟩ ((0 : Nat) : Int) 0 (by decide +kernel) (by kernel_rfl) (fun w' => At B b w0 w' 2 ⟨[gA], [], false⟩) (readLetters_one b W hr.cells.1 stdL sx sc hSW std_len _ k1 hl hk1 _ fun W' hb' => by
      have hq : 1 < b.args.length := by omega
      refine (giveNext_any B b W' _ (hr.below hb' hBW) (Nat.le_trans hBW hb'.size) k1 _ hq (by simp only [Nat.zero_add]; rw [get1 b hba hq]; decide) (by rw [hn1]; decide) (by simp) (by omega)).mono ?_
      rintro e w' ⟨rfl, v2, h2, hb2⟩
      refine ⟨⟨0, rfl⟩, rfl, v2, rv, ?_, hb.trans ((hb'.mono hBW).trans hb2), Nat.le_trans hBW (Nat.le_trans hb'.size hb2.size)⟩
      simp only [Nat.zero_add, get1 b hba hq, hn1] at h2
      exact h2)
    refine h1.mono ?_
    rintro e w' ⟨rfl, h⟩
    exact .inl ⟨rfl, 2, _, by decide, by decide, rfl, h⟩
  · cases ht
  · obtain rfl : (⟨[gA], [], false⟩ : Told) = t := by injection ht
    rw [show args1[2] = ⟨#[120]⟩ from rfl]
    refine (read_no b W ⟨#[120]⟩ _ (by decide +kernel) (fun w' => At B b w0 w' 3 ⟨[gA], [xB], false⟩) ?_).mono ?_
    · refine (leave_any B b W _ hr hBW _ (by decide) (by simp)).mono ?_
      rintro e w' ⟨rfl, v2, h2, hb2⟩
      exact ⟨rfl, gv, v2, h2, hb.trans hb2, Nat.le_trans hBW hb2.size⟩
    · rintro e w' ⟨rfl, h⟩
      exact .inl ⟨rfl, 3, _, by decide, by decide, rfl, h⟩
  · obtain rfl : (⟨[gA], [xB], false⟩ : Told) = t := by injection ht
    obtain ⟨k1, hl, hk1, hn1⟩ := std_dry
    rw [show args1[3] = ⟨#[45, 45, 98, 111, 111, 116, 46, 100, 114, 121]⟩ from rfl]
    refine (read_word b W ⟨#[45, 45, 98, 111, 111, 116, 46, 100, 114, 121]⟩ gB.name _ 0 (by decide +kernel) (by kernel_rfl) (fun w' => At B b w0 w' 4 ⟨[gA, gB], [xB], false⟩) ?_).mono ?_
    · refine (readWord_bool B b W _ hr hBW hMW stdL sx sc hSW hs std_len _ _ (by decide) (by kernel_rfl) (by decide) (by kernel_rfl) k1 hl hk1 (by rw [hn1]; decide) (by simp)).mono ?_
      rintro e w' ⟨rfl, v2, h2, hb2⟩
      refine ⟨rfl, v2, rv, ?_, hb.trans hb2, Nat.le_trans hBW hb2.size⟩
      rw [hn1] at h2
      exact h2
    · rintro e w' ⟨rfl, h⟩
      exact .inl ⟨rfl, 4, _, by decide, by decide, rfl, h⟩
  · obtain rfl : (⟨[gA, gB], [xB], false⟩ : Told) = t := by injection ht
    rw [show args1[4] = ⟨#[45, 104]⟩ from rfl]
    refine (read_help B b W _ hr ⟨#[45, 104]⟩ _ (by decide +kernel)).mono ?_
    rintro e w' ⟨rfl, h2, hb2⟩
    exact .inl ⟨rfl, 5, _, by decide, by decide, rfl, gv, rv, h2, hb.trans hb2, Nat.le_trans hBW hb2.size⟩
  · obtain rfl : (⟨[gA, gB], [xB], true⟩ : Told) = t := by injection ht
    rw [show args1[5] = ⟨#[45, 45]⟩ from rfl]
    refine (read_end b W ⟨#[45, 45]⟩ _ (by decide +kernel) (fun w' => At B b w0 w' 7 ⟨[gA, gB], [xB, qB], true⟩) ?_).mono ?_
    · refine (leaveAll_any B b W _ hr hBW (by rw [hba]; decide) (by omega) (by simp)).mono ?_
      rintro e w' ⟨rfl, v2, h2, hb2⟩
      simp only [hba] at h2
      exact ⟨rfl, gv, v2, h2, hb.trans hb2, Nat.le_trans hBW hb2.size⟩
    · rintro e w' ⟨rfl, h⟩
      exact .inl ⟨rfl, 7, _, by decide, by decide, rfl, h⟩
  · cases ht
set_option maxHeartbeats 1600000 in
set_option maxRecDepth 100000 in
theorem steps2 (S : Nat) (x : Option Addr) (c : Nat) (w0 : World) (sx : Option Addr) (sc : Nat) (hS : SetAt w0 S sx sc stdL) : StepOk args2 S x c T2 (fun n k => n = 72 ∧ k = 1) w0 := by
  intro B b W k t hbS _ _ hba hBw ht hk hat
  obtain ⟨gv, rv, hr, hb, hBW⟩ := hat
  have hb0 := hb.mono hBw
  have hSW := hS.below hb0
  rw [← hbS] at hSW
  have hlen : b.args.length = 2 := by rw [hba]; rfl
  have hk' : k = 0 ∨ k = 1 := by
    have : args2.length = 2 := rfl
    omega
  rcases hk' with rfl | rfl
  · obtain rfl : (⟨[], [], false⟩ : Told) = t := by injection ht
    rw [show args2[0] = ⟨#[120]⟩ from rfl]
    refine (read_no b W ⟨#[120]⟩ _ (by decide +kernel) (fun w' => At B b w0 w' 1 ⟨[], [xB], false⟩) ?_).mono ?_
    · refine (leave_any B b W _ hr hBW _ (by decide) (by simp)).mono ?_
      rintro e w' ⟨rfl, v2, h2, hb2⟩
      exact ⟨rfl, gv, v2, h2, hb.trans hb2, Nat.le_trans hBW hb2.size⟩
    · rintro e w' ⟨rfl, h⟩
      exact .inl ⟨rfl, 1, _, by decide, by decide, rfl, h⟩
  · obtain rfl : (⟨[], [xB], false⟩ : Told) = t := by injection ht
    obtain ⟨k1, hl, hk1, hn1⟩ := std_p
    rw [show args2[1] = ⟨#[45, 112]⟩ from rfl]
    have h1 := read_letters b W ⟨#[45, 112]⟩ ⟨#[112]⟩ ((1 : Nat) : Int) 72 (by decide +kernel) (by kernel_rfl) (fun w' => Below B w0 w') (readLetters_one b W hr.cells.1 stdL sx sc hSW std_len _ k1 hl hk1 _ fun W' hb' => by
      refine (giveNext_none B b W' _ (hr.below hb' hBW) (Nat.le_trans hBW hb'.size) k1 _ hlen.symm).mono ?_
      rintro e w' ⟨rfl, hb2⟩
      exact ⟨⟨72, rfl⟩, rfl, hb.trans ((hb'.mono hBW).trans (hb2.mono (Nat.le_trans hBW hb'.size)))⟩)
    refine h1.mono ?_
    rintro e w' ⟨rfl, h⟩
    exact .inr ⟨72, by decide, rfl, ⟨rfl, rfl⟩, h⟩
end Go.Proofs.YtbgoooljkdjjhaaGreatDoor

namespace Go.Proofs.YtbgoooljkdjjhaaGreatDoor
open Go.ChangeShapes Go.WideShapes Go.ChangeAt Go.RowKit

theorem geql_self (g : GivV) (w : World) : (binOp .eql 27 (.agg #[.string g.name, .string g.text, .int .i64 g.at_]) (.agg #[.string g.name, .string g.text, .int .i64 g.at_])).run Tryz.prog w = .ok (.bool true) w := by
  have u3 := Tryz.underlying3
  have u9 := Tryz.underlying9
  have hS : Tryz.prog.underlying 27 = some (.struct (Tryz.prog.fieldsOf 27)) := by kernel_rfl
  have hp : Tryz.prog.stoodInHeld 27 = false := by kernel_rfl
  rw [run_eql_struct, show (10000 : Nat) = 9999 + 1 from rfl, run_equalIn_agg w 9999 27 _ _ hS hp]
  simp only [Program.fieldsOf, Tryz.underlying27]
  go_simp
theorem geql_guard (x y : Operand) (xs ys : Array Value) (w : World) : (eqGuard .eql 27 x y (.agg xs) (.agg ys)).run Tryz.prog w = .ok () w :=
  run_eqGuard_agg w .eql 27 x y xs ys (by kernel_rfl)
theorem TxAt.of_own {w : World} {B : Nat} {v : Value} {ts : List ByteArray} (h : w.ownsRow B 9 1 v ts.length (ts.map Value.string)) : ∃ x c, v = .slice x ts.length c ∧ TxAt w x ts := by
  rcases h.2 with ⟨h1, h2⟩ | ⟨g, cap, cur, h1, _, hg, _⟩
  · refine ⟨none, 0, by rw [h1, h2], fun k hk => ?_⟩
    omega
  · refine ⟨_, _, h1, fun k hk => ⟨g, 0, rfl, (Array.getElem?_eq_some_iff.1 hg).1, ?_⟩⟩
    have hv := h
    rw [h1] at hv
    rw [Nat.zero_add, hv.cellAt k (by simpa using hk), List.getElem?_map, List.getElem?_eq_getElem hk]; rfl
theorem texts_lit (W : World) (ts : List ByteArray) (cs : Array Value) (hcs : cs = (ts.map Value.string).toArray) (t : TypeId) : TxAt (W.alloc (Obj.cells cs t)) (some ⟨W.heap.size, 0, none⟩) ts := fun k hk => by
  subst hcs
  refine ⟨W.heap.size, 0, rfl, by simp, ?_⟩
  rw [Nat.zero_add, World.cell?_alloc_at _ _ _ _ rfl]
  simp [hk]
theorem givs_lit (W : World) (gs : List GivV) (cs : Array Value) (hcs : cs = (gFlat gs).toArray) (t : TypeId) : Givs (W.alloc (Obj.cells cs t)) (some ⟨W.heap.size, 0, none⟩) gs := by
  subst hcs
  refine Givs.of_cells (by simp) fun j u hj => ?_
  rw [Nat.zero_add, World.cell?_alloc_at _ _ _ _ rfl]
  simpa using hj
theorem parse1_any (S : Nat) (sx : Option Addr) (sc : Nat) (W : World) (t : TypeId) (g : Nat) (hg : g = W.heap.size) (hS : SetAt W S sx sc stdL) (hs : Sorted stdL) (hM : MaxI W) :
    Calls Tryz.prog 30 #[.pointer (some ⟨S, 0, none⟩), .slice (some ⟨g, 0, none⟩) 7 7] (W.alloc (Obj.cells #[.string ⟨#[45, 112]⟩, .string ⟨#[57, 48, 48, 50]⟩, .string ⟨#[120]⟩, .string ⟨#[45, 45, 98, 111, 111, 116, 46, 100, 114, 121]⟩, .string ⟨#[45, 104]⟩, .string ⟨#[45, 45]⟩, .string ⟨#[45, 113]⟩] t)) fun e w' =>
      ∃ x1 c1 x2 c2, e = .returned (.tuple #[.agg #[.slice x1 2 c1, .slice x2 2 c2, .bool true], .int .i64 0, .int .i64 0]) ∧ Below W.heap.size W w' ∧ Givs w' x1 [gA, gB] ∧ TxAt w' x2 [xB, qB] := by
  subst hg
  have hb := below_one W (Obj.cells #[.string ⟨#[45, 112]⟩, .string ⟨#[57, 48, 48, 50]⟩, .string ⟨#[120]⟩, .string ⟨#[45, 45, 98, 111, 111, 116, 46, 100, 114, 121]⟩, .string ⟨#[45, 104]⟩, .string ⟨#[45, 45]⟩, .string ⟨#[45, 113]⟩] t)
  have hx := texts_lit W args1 _ rfl t
  refine (parse_by args1 S _ 7 (W.alloc _) T1 (fun _ _ => False) rfl (by decide) hx (fun w0 h0 => steps1 S _ 7 w0 sx sc ((hS.below hb).below h0) hs ((hM.below hb).below h0))).mono ?_
  rintro e w' ⟨h, hb2⟩
  rcases h with ⟨t1, gv, rv, ht, rfl, hg, hr⟩ | ⟨_, _, _, hf, _⟩
  · obtain rfl : (⟨[gA, gB], [xB, qB], true⟩ : Told) = t1 := by injection ht
    obtain ⟨x1, c1, rfl, h1⟩ := Givs.of_own hg rfl
    obtain ⟨x2, c2, rfl, h2⟩ := TxAt.of_own hr
    exact ⟨x1, c1, x2, c2, rfl, hb.trans (hb2.mono hb.size), h1, h2⟩
  · exact hf.elim
theorem parse2_any (S : Nat) (sx : Option Addr) (sc : Nat) (W : World) (t : TypeId) (g : Nat) (hg : g = W.heap.size) (hS : SetAt W S sx sc stdL) :
    Calls Tryz.prog 30 #[.pointer (some ⟨S, 0, none⟩), .slice (some ⟨g, 0, none⟩) 2 2] (W.alloc (Obj.cells #[.string ⟨#[120]⟩, .string ⟨#[45, 112]⟩] t)) fun e w' =>
      e = .returned (.tuple #[.agg #[.slice none 0 0, .slice none 0 0, .bool false], .int .i64 72, .int .i64 1]) ∧ Below W.heap.size W w' := by
  subst hg
  have hb := below_one W (Obj.cells #[.string ⟨#[120]⟩, .string ⟨#[45, 112]⟩] t)
  have hx := texts_lit W args2 _ rfl t
  refine (parse_by args2 S _ 2 (W.alloc _) T2 (fun n k => n = 72 ∧ k = 1) rfl (by decide) hx (fun w0 h0 => steps2 S _ 2 w0 sx sc ((hS.below hb).below h0))).mono ?_
  rintro e w' ⟨h, hb2⟩
  rcases h with ⟨t1, gv, rv, ht, _⟩ | ⟨_, _, _, ⟨rfl, rfl⟩, rfl⟩
  · cases ht
  · exact ⟨rfl, hb.trans (hb2.mono hb.size)⟩
set_option maxRecDepth 100000 in
theorem fprint_nil (x : Option Addr) (n c : Nat) (w : World) :
    Calls Tryz.prog 11 #[.pointer none, .slice x n c] w fun e w' => e = .returned (.tuple #[.slice none 0 0, .int .i64 1]) ∧ w = w' := by
  go_enter Tryz.func11, Tryz.ntmps11
  go_wp2
  go_ret2
  exact ⟨rfl, rfl⟩
theorem print_std (gs : List GivV) (p : List ByteArray × Int) (hp : printA stdL gs = p) (n : Nat) (hn : gs.length = n) (S : Nat) (sx : Option Addr) (sc : Nat) (W : World) (t : TypeId) (g : Nat) (hg : g = W.heap.size) (hS : SetAt W S sx sc stdL) (hs : Sorted stdL) (hl : stdL.length ≤ 64) (cs : Array Value) (hcs : cs = (gFlat gs).toArray) (hn2 : n ≤ 100) (hz : ∀ g ∈ gs, g.name.size ≤ 4294967280 ∧ g.text.size ≤ 4294967280) :
    Calls Tryz.prog 11 #[.pointer (some ⟨S, 0, none⟩), .slice (some ⟨g, 0, none⟩) n n] (W.alloc (Obj.cells cs t)) fun e w' => ∃ x c, e = .returned (.tuple #[.slice x p.1.length c, .int .i64 p.2]) ∧ Below W.heap.size W w' ∧ TxAt w' x p.1 := by
  subst hg
  subst hn
  have hb := below_one W (Obj.cells cs t)
  refine (fprint_any stdL S sx sc gs _ _ _ (hS.below hb) hs hl (givs_lit W gs cs hcs t) (by omega) hz).mono ?_
  rintro e w' ⟨v, rfl, ho⟩
  rw [hp] at ho ⊢
  obtain ⟨x, c, rfl, hx⟩ := ho.texts
  exact ⟨x, c, rfl, hb.trans (ho.below.mono hb.size), hx⟩
def gP1 : GivV := ⟨⟨#[110, 101, 116, 46, 112, 111, 114, 116]⟩, ⟨#[49]⟩, 0⟩
def gP2 : GivV := ⟨⟨#[112, 111, 114, 116]⟩, ⟨#[]⟩, 0⟩
def pP1 : ByteArray := ⟨#[45, 45, 110, 101, 116, 46, 112, 111, 114, 116, 61, 49]⟩
theorem pr1 : printA stdL [gP1] = ([pP1], 0) := by kernel_rfl
theorem pr2 : printA stdL [gP2] = ([], 1) := by kernel_rfl
/-- What awake holds behind its first call. -/
structure AwS (w0 w : World) (S b : Nat) (x1 : Option Addr) (c1 : Nat) (x2 : Option Addr) (c2 : Nat) : Prop where
  set : SetIn w0 w S stdL
  g : Givs w x1 [gA, gB]
  r : TxAt w x2 [xB, qB]
  box : w.heap[b]? = some (Obj.cells #[.slice x1 2 c1, .slice x2 2 c2, .bool true] 62)
theorem AwS.below {w0 w w' : World} {S b c1 c2 : Nat} {x1 x2 : Option Addr} (h : AwS w0 w S b x1 c1 x2 c2) (hb : Below w.heap.size w w') : AwS w0 w' S b x1 c1 x2 c2 :=
  ⟨h.set.below' hb, h.g.below hb, h.r.below hb, (hb.block b (heap_ltF h.box)).trans h.box⟩
theorem AwS.cells {w0 w : World} {S b c1 c2 : Nat} {x1 x2 : Option Addr} (h : AwS w0 w S b x1 c1 x2 c2) : w.cell? ⟨b, 0, none⟩ = some (.slice x1 2 c1) ∧ w.cell? ⟨b, 1, none⟩ = some (.slice x2 2 c2) ∧ w.cell? ⟨b, 2, none⟩ = some (.bool true) := by
  refine ⟨?_, ?_, ?_⟩
  all_goals rw [cell_of_row w b _ _ _ _ h.box]; rfl
set_option maxHeartbeats 3200000 in
set_option maxRecDepth 100000 in
theorem fawake_any (w : World) (hT : Tab w) (hU : Units w) (hI : MaxI w) :
    Calls Tryz.prog 9 #[] w fun e w' => e = .returned (.bool true) ∧ Below w.heap.size w w' := by
  have HST := Lib.hid (standard_any w hT hU hI)
  have HMX : Hid (∀ W, Below w.heap.size w W → MaxI W) := Lib.hid fun W hb => hI.below hb
  clear hT hU hI
  go_enter Tryz.func9, Tryz.ntmps9
  go_wp2_with fail
  refine HST.out.mono ?_
  rintro e w1 ⟨S, rfl, hs1⟩
  have HS1 := Lib.hid hs1
  clear hs1 HST
  go_wp2_with fail
  obtain ⟨sx, sc, hsa⟩ := HS1.out.set
  refine (parse1_any S sx sc w1 _ _ rfl hsa HS1.out.sorted (HMX.out _ HS1.out.below)).mono ?_
  clear hsa
  rintro e w2 ⟨x1, c1, x2, c2, rfl, hb2, hg2, hr2⟩
  have HA2 : Hid (AwS w (w2.alloc (Obj.cells #[.slice x1 2 c1, .slice x2 2 c2, .bool true] 62)) S w2.heap.size x1 c1 x2 c2) := Lib.hid (by
    have hb := below_one w2 (Obj.cells #[.slice x1 2 c1, .slice x2 2 c2, .bool true] 62)
    exact ⟨(HS1.out.below' hb2).below' hb, hg2.below hb, hr2.below hb, heap_alloc_new _ _⟩)
  clear hb2 hg2 hr2 HS1
  obtain ⟨z, hz⟩ : ∃ z, w2.heap.size = z := ⟨_, rfl⟩
  rw [hz] at HA2
  go_wp2_with fail
  obtain ⟨sx2, sc2, hsa2⟩ := HA2.out.set.set
  refine (parse2_any S sx2 sc2 _ _ _ (by simp [hz]) hsa2).mono ?_
  clear hsa2
  rintro e w3 ⟨rfl, hb3⟩
  have HA3 := Lib.hid (HA2.out.below hb3)
  clear hb3 HA2
  go_wp2_with fail
  refine (parse_nil _ _ _ _).mono ?_
  rintro e w4 ⟨rfl, hb4⟩
  have HA4 := Lib.hid ((HA3.out.below (below_one w3 _)).below hb4)
  clear hb4 HA3
  go_wp2_with fail
  have HA5 := Lib.hid (HA4.out.below (below_one w4 (Obj.cells #[.slice none 0 0, .slice none 0 0, .bool false] 62)))
  obtain ⟨sx5, sc5, hsa5⟩ := HA5.out.set.set
  refine (print_std [gP1] _ pr1 1 rfl S sx5 sc5 _ _ _ (by simp) hsa5 HA5.out.set.sorted HA5.out.set.len _ rfl (by decide) (by intro g hg; obtain rfl := List.mem_singleton.1 hg; decide)).mono ?_
  clear hsa5 HA4
  rintro e w5 ⟨x6, c6, rfl, hb5, hx6⟩
  have HX6 := Lib.hid hx6
  have HA6 := Lib.hid (HA5.out.below hb5)
  clear hb5 hx6 HA5
  go_wp2_with fail
  obtain ⟨sx7, sc7, hsa7⟩ := HA6.out.set.set
  refine (print_std [gP2] _ pr2 1 rfl S sx7 sc7 _ _ _ rfl hsa7 HA6.out.set.sorted HA6.out.set.len _ rfl (by decide) (by intro g hg; obtain rfl := List.mem_singleton.1 hg; decide)).mono ?_
  clear hsa7
  rintro e w6 ⟨x7, c7, rfl, hb6, _⟩
  have HX7 := Lib.hid (HX6.out.below hb6)
  have HA7 := Lib.hid (HA6.out.below hb6)
  clear hb6 HA6 HX6
  go_wp2_with fail
  refine (fprint_nil _ _ _ _).mono ?_
  rintro e w7 ⟨rfl, rfl⟩
  obtain ⟨k0, k1, k2⟩ := HA7.out.cells
  go_wp2_with fail
  have HA8 := Lib.hid (HA7.out.below (below_one w6 (Obj.cells #[.string ⟨#[120]⟩, .string ⟨#[45, 113]⟩] 9)))
  have HX8 := Lib.hid (HX7.out.below (below_one w6 (Obj.cells #[.string ⟨#[120]⟩, .string ⟨#[45, 113]⟩] 9)))
  refine (texts_any [xB, qB] x2 _ c2 2 _ HA8.out.r (texts_lit w6 [xB, qB] _ rfl _) (by decide)).mono ?_
  rintro e w8 ⟨rfl, hb8⟩
  have HB8 := Lib.hid (HA8.out.below hb8).set.below
  obtain ⟨d0, d1, d2⟩ := (HA8.out.below hb8).cells
  have hg := (HA8.out.below hb8).g
  obtain ⟨b, off, rfl, _, a0, a1, a2⟩ := hg 0 (by decide)
  obtain ⟨b', off', ex, _, b0, b1, b2⟩ := hg 1 (by decide)
  obtain ⟨rfl, rfl⟩ : b = b' ∧ off = off' := by simpa using ex
  obtain ⟨q, qo, rfl, _, p0⟩ := (HX8.out.below hb8) 0 (by decide)
  have hq1 := geql_self gA
  have hq2 := geql_self gB
  have hgd := geql_guard
  unfold gA at a0 a1 a2 hq1
  unfold gB at b0 b1 b2 hq2
  unfold pP1 at p0
  simp at a0 a1 a2 b0 b1 b2 hq1 hq2 p0
  clear hb8 hg ex HA8 HX8 HX7 HA7
  go_wp2
  go_ret
  exact ⟨rfl, HB8.out⟩
end Go.Proofs.YtbgoooljkdjjhaaGreatDoor
