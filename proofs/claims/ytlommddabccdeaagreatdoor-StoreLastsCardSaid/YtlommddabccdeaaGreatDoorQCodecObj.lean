/-
  CodecRow, CodecObj.
-/
import Derived.Test.YtlommddabccdeaaGreatDoorQBytes
import Derived.Test.YtlommddabccdeaaGreatDoorQCodecMath
import Derived.Test.YtlommddabccdeaaGreatDoorQCodecAs
import Derived.Lib.AppendStr
import Derived.Test.YtlommddabccdeaaGreatDoorQUpd
namespace Go.Proofs.YtlommddabccdeaaGreatDoor
open Go.ChangeShapes Go.WideShapes Go.ChangeAt Go.RowKit

theorem or128 (m : Nat) : bits .or .u8 ((m : Int) % 256) 128 = ((UInt8.ofNat (128 + m % 128)).toNat : Int) := by
 have key : ∀ k : Fin 256, bits .or .u8 (k.val : Int) 128 = 128 + (k.val : Int) % 128 := by decide +kernel
 have h1 : (m : Int) % 256 = ((m % 256 : Nat) : Int) := by omega
 rw [h1, key ⟨m % 256, by omega⟩, b_hi]
 simp only; omega
theorem wrap8 (m : Nat) (h : m < 128) : IntKind.u8.wrap (m : Int) = ((UInt8.ofNat m).toNat : Int) := by
 rw [b_lo m h, IntKind.wrap_u8]; omega

def Rowing (w0 w : World) (v : Value) (n m : Nat) : Prop := m ≤ 4611686018427387904 ∧ ∃ p, Own8 w0 w v p ∧ p.length ≤ 9 ∧ p ++ rowL m = rowL n
theorem Rowing.step {w0 w : World} {v : Value} {n m : Nat} {p : List UInt8} (ho : Own8 w0 w v (p ++ [UInt8.ofNat (128 + m % 128)])) (h : p ++ rowL m = rowL n) (hm : ¬ m < 128) (hb : m ≤ 4611686018427387904) (hl : (rowL n).length ≤ 9) : Rowing w0 w v n (m / 128) := by
 rw [rowL_great hm] at h
 refine ⟨by omega, _, ho, ?_, by simpa using h⟩
 have := congrArg List.length h
 simp only [List.length_append, List.length_cons, List.length_nil] at this ⊢
 omega
theorem Rowing.last {w0 w : World} {v : Value} {n m : Nat} {p : List UInt8} (ho : Own8 w0 w v (p ++ [UInt8.ofNat m])) (h : p ++ rowL m = rowL n) (hm : m < 128) : Own8 w0 w v (rowL n) := by
 rw [rowL_small hm] at h
 rw [← h]; exact ho

set_option maxRecDepth 100000 in
set_option maxHeartbeats 800000 in
theorem rowOf_int (n : Nat) (w : World) (hn : n ≤ 4611686018427387904) :
  Calls Tryz.prog 104 #[.int .i64 n] w fun e w' => ∃ v, e = .returned (.tuple #[v, .nilIface]) ∧ Own8 w w' v (rowL n) := by
 obtain ⟨i0, hi, hz0, hz1, hz2⟩ := info_parts info8
 have H0 := Lib.hid hi
 have H1 := Lib.hid hz0
 have H2 := Lib.hid hz1
 have H3 := Lib.hid hz2
 clear hi hz0 hz1 hz2
 have hL := rowL_len9 hn
 have hw : IntKind.u64.wrap (n : Int) = n := IntWalk.u64_in _ (by omega)
 have HN := Lib.hid hn
 have hd : decide ((4611686018427387904 : Int) < (n : Int)) = false := decide_eq_false (by omega)
 have hd0 : decide ((n : Int) < 0) = false := decide_eq_false (by omega)
 clear hn
 go_enter Tryz.func104, Tryz.ntmps104
 go_wp2_with (at_make; refine wpList_make_own _ rfl _ _ 63 rfl w.heap.size 5 i0 (.int .u8 0) 1 Tryz.underlying63 H0.out H1.out H2.out .i64 .i64 _ 9 rfl rfl (by omega) (by rw [H3.out]; omega) (by unfold maxLen; omega) (Nat.le_refl _) ?_; intro w1 h1 h2; have ho := Own8.made (Below.refl _ _) h1 h2; clear h1 h2)
 clear H0 H1 H2 H3 hw hd hd0
 go_loopw [4, 5] (fun v r wr => ∃ m : Nat, r = .int .u64 m ∧ Rowing w wr v n m) (fun _ r _ => (intOf r).toNat)
 case atStart => exact ⟨n, rfl, HN.out, [], ho, by simp, rfl⟩
 case round =>
  clear ho
  obtain ⟨m, rfl, hm0, p, ho, hp, hpr⟩ := hrel
  have HM := Lib.hid hm0
  have HR := Lib.hid hpr
  by_cases hm : m < 128
  ·have hc := wrap8 m hm
   clear hm0 hpr
   go_wp2_with (at_builtin; refine append8 rfl _ _ rfl ho rfl [UInt8.ofNat m] _ rfl rfl rfl rfl (by simp; omega) ?_; intro v2 w2 ho2)
   go_ret2
   exact ⟨_, rfl, Rowing.last ho2 HR.out hm⟩
  ·have hc := or128 m
   clear hm0 hpr
   go_wp2_with (at_builtin; refine append8 rfl _ _ rfl ho rfl [UInt8.ofNat (128 + m % 128)] _ rfl rfl rfl rfl (by simp; omega) ?_; intro v2 w2 ho2)
   go_roundw
   case rel => exact ⟨m / 128, by go_num, Rowing.step ho2 HR.out hm HM.out hL⟩
   case measure => simp [intOf]; omega

set_option maxRecDepth 100000 in
theorem rowOf_int_no (n : Int) (w : World) (hn : n < 0 ∨ 4611686018427387904 < n) (hw : n < 9223372036854775808) :
  Calls Tryz.prog 104 #[.int .i64 n] w fun e w' => e = .returned (.tuple #[.slice none 0 0, errV 30]) ∧ w = w' := by
 by_cases h0 : n < 0
 ·have hd0 : decide (n < 0) = true := decide_eq_true h0
  clear hn hw
  go_enter Tryz.func104, Tryz.ntmps104
  go_wp2
  go_ret2
  exact ⟨rfl, rfl⟩
 ·have hd0 : decide (n < 0) = false := decide_eq_false h0
  have hd : decide ((4611686018427387904 : Int) < n) = true := decide_eq_true (by omega)
  have hw : IntKind.u64.wrap n = n := IntWalk.u64_in _ (by omega)
  clear hn
  go_enter Tryz.func104, Tryz.ntmps104
  go_wp2
  go_ret2
  exact ⟨rfl, rfl⟩

set_option maxRecDepth 100000 in
set_option maxHeartbeats 800000 in
theorem rowOf_u64 (n : Nat) (w : World) (hn : n ≤ 4611686018427387904) :
  Calls Tryz.prog 136 #[.int .u64 n] w fun e w' => ∃ v, e = .returned (.tuple #[v, .nilIface]) ∧ Own8 w w' v (rowL n) := by
 obtain ⟨i0, hi, hz0, hz1, hz2⟩ := info_parts info8
 have H0 := Lib.hid hi
 have H1 := Lib.hid hz0
 have H2 := Lib.hid hz1
 have H3 := Lib.hid hz2
 clear hi hz0 hz1 hz2
 have hL := rowL_len9 hn
 have HN := Lib.hid hn
 have hd : decide ((4611686018427387904 : Int) < (n : Int)) = false := decide_eq_false (by omega)
 have hd0 : decide ((n : Int) < 0) = false := decide_eq_false (by omega)
 clear hn
 go_enter Tryz.func136, Tryz.ntmps136
 go_wp2_with (at_make; refine wpList_make_own _ rfl _ _ 63 rfl w.heap.size 5 i0 (.int .u8 0) 1 Tryz.underlying63 H0.out H1.out H2.out .i64 .i64 _ 9 rfl rfl (by omega) (by rw [H3.out]; omega) (by unfold maxLen; omega) (Nat.le_refl _) ?_; intro w1 h1 h2; have ho := Own8.made (Below.refl _ _) h1 h2; clear h1 h2)
 clear H0 H1 H2 H3 hd hd0
 go_loopw [4, 5] (fun v r wr => ∃ m : Nat, r = .int .u64 m ∧ Rowing w wr v n m) (fun _ r _ => (intOf r).toNat)
 case atStart => exact ⟨n, rfl, HN.out, [], ho, by simp, rfl⟩
 case round =>
  clear ho
  obtain ⟨m, rfl, hm0, p, ho, hp, hpr⟩ := hrel
  have HM := Lib.hid hm0
  have HR := Lib.hid hpr
  by_cases hm : m < 128
  ·have hc := wrap8 m hm
   clear hm0 hpr
   go_wp2_with (at_builtin; refine append8 rfl _ _ rfl ho rfl [UInt8.ofNat m] _ rfl rfl rfl rfl (by simp; omega) ?_; intro v2 w2 ho2)
   go_ret2
   exact ⟨_, rfl, Rowing.last ho2 HR.out hm⟩
  ·have hc := or128 m
   clear hm0 hpr
   go_wp2_with (at_builtin; refine append8 rfl _ _ rfl ho rfl [UInt8.ofNat (128 + m % 128)] _ rfl rfl rfl rfl (by simp; omega) ?_; intro v2 w2 ho2)
   go_roundw
   case rel => exact ⟨m / 128, by go_num, Rowing.step ho2 HR.out hm HM.out hL⟩
   case measure => simp [intOf]; omega

set_option maxRecDepth 100000 in
theorem rowOf_u64_no (n : Nat) (w : World) (hn : 4611686018427387904 < n) :
  Calls Tryz.prog 136 #[.int .u64 n] w fun e w' => e = .returned (.tuple #[.slice none 0 0, errV 30]) ∧ w = w' := by
 have hd0 : decide ((n : Int) < 0) = false := decide_eq_false (by omega)
 have hd : decide ((4611686018427387904 : Int) < (n : Int)) = true := decide_eq_true (by omega)
 clear hn
 go_enter Tryz.func136, Tryz.ntmps136
 go_wp2
 go_ret2
 exact ⟨rfl, rfl⟩

theorem appendS {ops : Array Oper} {rest : List Oper} {o : Oper} {a : Act} {Q : Exit → Act → World → Prop} (hgd : o.guard = none) (s x : Operand)
  (ho : o.op = .call { callee := .builtin .append, args := #[s, x], argTypes := #[63, 9] })
  {w0 w : World} {v : Value} {l : List UInt8} (hown : Own8 w0 w v l) (hs : a.eval s = v) (t : ByteArray) (hx : a.eval x = .string t) (hb : l.length + t.size ≤ 70368744177664)
  (h : ∀ v' w', Own8 w0 w' v' (l ++ t.data.toList) → wpList Tryz.prog ops Q rest (a.put o.dst v') w') : wpList Tryz.prog ops Q (o :: rest) a w := by
 obtain ⟨i0, hi, hz0, hz1, hz2⟩ := info_parts info8
 refine Lib.wpList_append_own_string w hgd s x 63 9 ho w0.heap.size 5 i0 Tryz.underlying63 Tryz.underlying9 hi hz0 hz1 hz2 v l.length (l.map b8) hs hown.own t hx (by unfold maxLen; omega) (by omega) hown.below.size ?_
 intro v' w' h1 h2 _
 refine h v' w' ⟨?_, hown.below.grown h2 hown.below.size (fun k hk => (hown.own.lt k hk).1)⟩
 have e : l.map b8 ++ Lib.strCells t = (l ++ t.data.toList).map b8 := by rw [List.map_append]; rfl
 have e2 : (l ++ t.data.toList).length = l.length + t.size := by rw [List.length_append]; simp
 rw [← e, e2]; exact h1

set_option maxRecDepth 100000 in
theorem rowOfText_any (s : ByteArray) (w : World) (hs : s.size ≤ 65535) :
  Calls Tryz.prog 106 #[.string s] w fun e w' => ∃ v, e = .returned (.tuple #[v, .nilIface]) ∧ Own8 w w' v (rowL s.size ++ s.data.toList) := by
 have hl := rowL_len3 hs
 go_enter Tryz.func106, Tryz.ntmps106
 go_wp2_with (first
  | (go_at_call 104; refine (rowOf_int s.size _ (by omega)).mono ?_; rintro e w1 ⟨v1, rfl, ho⟩)
  | (at_builtin; refine appendS rfl _ _ rfl ho rfl s rfl (by omega) ?_; intro v2 w2 ho2))
 go_ret2
 exact ⟨_, rfl, ho2⟩
theorem rowOfText_no (s : ByteArray) (w : World) (hs : 65535 < s.size) :
  Calls Tryz.prog 106 #[.string s] w fun e w' => e = .returned (.tuple #[.slice none 0 0, errV 31]) ∧ w = w' := by
 go_enter Tryz.func106, Tryz.ntmps106
 go_wp2
 go_ret2
 exact ⟨rfl, rfl⟩

theorem hi8 (m : Nat) : IntKind.u8.wrap (128 + (m : Int) % 128) = ((UInt8.ofNat (128 + m % 128)).toNat : Int) := by
 rw [b_hi, IntKind.wrap_u8]; omega

end Go.Proofs.YtlommddabccdeaaGreatDoor

namespace Go.Proofs.YtlommddabccdeaaGreatDoor
open Go.ChangeShapes Go.WideShapes Go.ChangeAt Go.RowKit

theorem Hand.kept {w w' : World} (h : Hand w) (he : w'.heap[(5 : Nat)]? = w.heap[(5 : Nat)]?) : Hand w' := by
 unfold Hand at h ⊢
 rw [World.cell?_of_block (w := w) (a := ⟨5, 0, none⟩) he]; exact h
theorem Hand.pos {w : World} (h : Hand w) : 5 < w.heap.size := by
 exact World.block_lt_of_cell? w _ h
theorem Hand.below {w w' : World} {B : Nat} (h : Hand w) (hb : Below B w w') (hB : 5 < B) : Hand w' := h.kept (hb.block _ hB)
theorem Hand.upd {w w' : World} {F : List Nat} (h : Hand w) (hb : Upd F w w') (hF : ∀ x ∈ F, 5 < x) : Hand w' := h.kept (hb.block _ h.pos (fun hx => Nat.lt_irrefl _ (hF _ hx)))
theorem Hand.drewN {w : World} (h : Hand w) (n : Nat) : Hand (w.drewN n) := h

def errW (e : Int) : Value := if e = 0 then .nilIface else errV e
theorem errW_nil : errW 0 = .nilIface := rfl
theorem errW_some {e : Int} (h : e ≠ 0) : errW e = errV e := if_neg h

def Held (w : World) (v : Value) (l : List UInt8) : Prop := w.ownsRow 0 5 1 v l.length (l.map b8)
theorem Own8.held {w0 w : World} {v : Value} {l : List UInt8} (h : Own8 w0 w v l) : Held w v l := by
 obtain ⟨h1, h2⟩ := h.own
 refine ⟨h1, ?_⟩
 rcases h2 with h3 | ⟨g, cap, cur, h3, _, h4⟩
 ·exact .inl h3
 ·exact .inr ⟨g, cap, cur, h3, Nat.zero_le _, h4⟩
theorem Held.kept {w w' : World} {v : Value} {l : List UInt8} (h : Held w v l) (hk : ∀ g, v.ownBlock = some g → w'.heap[g]? = w.heap[g]?) : Held w' v l := by
 obtain ⟨h1, h2⟩ := h
 refine ⟨h1, ?_⟩
 rcases h2 with h3 | ⟨g, cap, cur, rfl, h4, h5, h6⟩
 ·exact .inl h3
 ·exact .inr ⟨g, cap, cur, rfl, h4, by rw [hk g rfl]; exact h5, h6⟩
theorem Held.lt {w : World} {v : Value} {l : List UInt8} (h : Held w v l) {g : Nat} (hg : v.ownBlock = some g) : g < w.heap.size := (World.ownsRow.lt h g hg).2
theorem Held.string {w : World} {v : Value} {l : List UInt8} (h : Held w v l) : (convert 63 9 v).run Tryz.prog w = .ok (str l) w := by
 rcases h.2 with ⟨rfl, hn⟩ | ⟨g, cap, cur, rfl, _⟩
 ·have : l = [] := List.eq_nil_of_length_eq_zero hn
  subst this
  rw [run_convert_bytes_nil w 63 5 Tryz.underlying63 Tryz.underlying5 0 0 9 Tryz.underlying9]; rfl
 ·exact ofBytes 9 63 5 w g cap l.length l rfl Tryz.underlying9 Tryz.underlying63 Tryz.underlying5 fun j hj => by
   have hc := World.ownsRow.cellAt h j (by simpa using hj)
   exact ⟨by rw [hc]; simp [b8, hj], World.ownsRow.frozenAt h j⟩
theorem Held.slice {w : World} {v : Value} {l : List UInt8} (h : Held w v l) (hl : 0 < l.length) : ∃ g cap, v = .slice (some ⟨g, 0, none⟩) l.length cap ∧ ∀ j u, (l.map b8)[j]? = some u → w.cell? ((⟨g, 0, none⟩ : Addr).add j) = some u := by
 rcases h.2 with ⟨rfl, hn⟩ | ⟨g, cap, cur, rfl, _⟩
 ·omega
 ·exact ⟨g, cap, rfl, World.ownsRow.cells h (g := g) rfl⟩

theorem Held.shape {w : World} {v : Value} {l : List UInt8} (h : Held w v l) : ∃ a c, v = .slice a l.length c := by
 rcases h.2 with ⟨rfl, hn⟩ | ⟨g, cap, cur, rfl, _⟩
 ·exact ⟨none, 0, by rw [hn]⟩
 ·exact ⟨_, _, rfl⟩

theorem Held.shape' {w : World} {v : Value} {l : List UInt8} (h : Held w v l) : ∃ a n c, v = .slice a n c := by
 obtain ⟨a, c, h1⟩ := h.shape
 exact ⟨a, _, c, h1⟩

theorem run_append_loc {w : World} {v : Value} {l : List UInt8} (hown : Held w v l) (ty : TypeId) (a : Addr) (c : Nat) (news : List UInt8) (hnews : ∀ j u, (news.map b8)[j]? = some u → w.cell? (a.add j) = some u) (hb : l.length + news.length ≤ 70368744177664) :
  ∃ v' w', (Builtin.append_ #[63, 63] ty #[v, .slice (some a) news.length c]).run Tryz.prog w = .ok v' w' ∧ Held w' v' (l ++ news) ∧ w.grownBy w' v.ownBlock ∧ ∀ g, v'.ownBlock = some g → v.ownBlock = some g ∨ w.heap.size ≤ g := by
 obtain ⟨i0, hi, hz0, hz1, hz2⟩ := info_parts info8
 have h1 : ∀ u ∈ news.map b8, u.oneCell' = true := by
  intro u hu
  obtain ⟨c, _, rfl⟩ := List.mem_map.1 hu
  rfl
 obtain ⟨v', w', hr, ho, hg, _⟩ := run_append_own (P := Tryz.prog) w 0 63 ty 5 i0 (.int .u8 0) 1 1 Tryz.underlying63 hi hz0 hz1 hz2 rfl (by decide) v l.length (l.map b8) hown a news.length c (news.map b8) (by simp) hnews h1 (by unfold maxLen; omega) (by omega) (Nat.zero_le _)
 refine ⟨v', w', hr, ⟨by simp, by simpa using ho.2⟩, hg, ?_⟩
 intro g hg'
 have hown2 := hown
 rcases hown2.2 with ⟨rfl, hn⟩ | ⟨g0, cap, cur, rfl, _, hcur, hnc, hcm, hcs, htake⟩
 ·obtain ⟨v2, w2, hr2, ho2, _, _⟩ := run_append_own (P := Tryz.prog) w w.heap.size 63 ty 5 i0 (.int .u8 0) 1 1 Tryz.underlying63 hi hz0 hz1 hz2 rfl (by decide) (.slice none 0 0) l.length (l.map b8) ⟨hown.1, .inl ⟨rfl, hn⟩⟩ a news.length c (news.map b8) (by simp) hnews h1 (by unfold maxLen; omega) (by omega) (Nat.le_refl _)
  rw [hr] at hr2
  injection hr2 with e1 e2
  subst e1 e2
  exact Or.inr (ho2.lt g hg').1
 ·by_cases hroom : l.length + news.length ≤ cap
  ·have hr2 := run_append_room (P := Tryz.prog) w 63 ty 5 i0 Tryz.underlying63 hi g0 l.length cap cur hcur a news.length c (news.map b8) (by rw [hz1]; simp) hnews h1 hroom (by rw [hz1, hcs]; simp; omega)
   rw [hr] at hr2
   injection hr2 with e1 e2
   subst e1
   exact Or.inl hg'
  ·have holds : ∀ j u, (l.map b8)[j]? = some u → w.cell? ((⟨g0, 0, none⟩ : Addr).add j) = some u := World.ownsRow.cells hown (g := g0) rfl
   have hr2 := run_append_grow (P := Tryz.prog) w 63 ty 5 i0 (.int .u8 0) Tryz.underlying63 hi hz0 ⟨g0, 0, none⟩ l.length cap (l.map b8) (by rw [hz1]; simp) holds a news.length c (news.map b8) (by rw [hz1]; simp) hnews (by omega) (by omega) (growslice_fits (by omega) (by rw [hz2]; omega))
   rw [hr] at hr2
   injection hr2 with e1 e2
   subst e1
   simp [Value.ownBlock] at hg'
   exact Or.inr (by omega)
theorem appendH {ops : Array Oper} {rest : List Oper} {o : Oper} {a : Act} {Q : Exit → Act → World → Prop} (hgd : o.guard = none) (s x : Operand)
  (ho : o.op = .call { callee := .builtin .append, args := #[s, x], argTypes := #[63, 63] })
  {w : World} {v : Value} {l : List UInt8} (hown : Held w v l) (hs : a.eval s = v) {ad : Addr} {c n : Nat} (news : List UInt8) (hx : a.eval x = .slice (some ad) n c) (hn : n = news.length) (hnews : ∀ j u, (news.map b8)[j]? = some u → w.cell? (ad.add j) = some u) (hb : l.length + news.length ≤ 70368744177664)
  (h : ∀ v' w', Held w' v' (l ++ news) → w.grownBy w' v.ownBlock → (∀ g, v'.ownBlock = some g → v.ownBlock = some g ∨ w.heap.size ≤ g) → wpList Tryz.prog ops Q rest (a.put o.dst v') w') : wpList Tryz.prog ops Q (o :: rest) a w := by
 subst hn
 refine wpList_plain hgd fun K hK => ?_
 obtain ⟨v', w', hr, h2, h3, h4⟩ := run_append_loc hown o.type ad c news hnews hb
 unfold Oper.wp execOp
 simp only [ho, resolve, invoke, builtin, Sem.run_bind, Sem.run_pure, Result.andThen_ok, List.map_toArray, List.map_cons, List.map_nil, hs, hx, hr]
 exact hK _ _ (h v' w' h2 h3 h4)
theorem Held.drewN {w : World} {v : Value} {l : List UInt8} (h : Held w v l) (n : Nat) : Held (w.drewN n) v l := h.kept (fun _ _ => rfl)
theorem grown_at {w w' : World} {row : Option Nat} {b : Nat} {o : Obj} (h : w.heap[b]? = some o) (hg : w.grownBy w' row) (hne : row ≠ some b) : w'.heap[b]? = some o :=
 (hg.block b (lt_of_heap h) (fun e => hne e.symm)).trans h
end Go.Proofs.YtlommddabccdeaaGreatDoor
