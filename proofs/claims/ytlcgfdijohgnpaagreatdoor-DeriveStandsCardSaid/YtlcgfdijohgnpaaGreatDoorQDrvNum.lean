/-
  DrvKit, DrvStd, DrvRight, DrvOrder, DrvTaken, DrvTk, DrvOrd, DrvOps, DrvNum.
-/
import Derived.Test.YtlcgfdijohgnpaaGreatDoorQLayGet
import Derived.Test.YtlcgfdijohgnpaaGreatDoorQKeyFinds
import Derived.Lib.AppendZerosOnto
import Derived.Test.YtlcgfdijohgnpaaGreatDoorShelfD
import Derived.Deep.RegionHeld3
namespace Go.Proofs.YtlcgfdijohgnpaaGreatDoor
open Go.ChangeShapes Go.WideShapes Go.ChangeAt Go.RowKit

structure RuleV where
 target : ByteArray
 needs : List ByteArray
 op : Int
 add : Int
structure RuleM where
 x : RuleV
 a : Option Addr
 c : Nat
def rAgg (m : RuleM) : Value := .agg #[.string m.x.target, .slice m.a m.x.needs.length m.c, .int .i64 m.x.op, .int .i64 m.x.add]
def RulesAt (w : World) (x : Option Addr) (rs : List RuleM) : Prop :=
 ∀ i (h : i < rs.length), ∃ b, x = some ⟨b, 0, none⟩ ∧ b < w.heap.size ∧ w.cell? ⟨b, i * 4, none⟩ = some (.string rs[i].x.target) ∧ w.cell? ⟨b, i * 4 + 1, none⟩ = some (.slice rs[i].a rs[i].x.needs.length rs[i].c) ∧ w.cell? ⟨b, i * 4 + 2, none⟩ = some (.int .i64 rs[i].x.op) ∧ w.cell? ⟨b, i * 4 + 3, none⟩ = some (.int .i64 rs[i].x.add) ∧ TxAt w rs[i].a rs[i].x.needs
theorem RulesAt.below {w w' : World} {x : Option Addr} {rs : List RuleM} (h : RulesAt w x rs) (hb : Below w.heap.size w w') : RulesAt w' x rs := fun i hi => by
 obtain ⟨b, e, hl, c0, c1, c2, c3, ht⟩ := h i hi
 exact ⟨b, e, Nat.lt_of_lt_of_le hl hb.size, (hb.cell (p := ⟨b, _, none⟩) hl).trans c0, (hb.cell (p := ⟨b, _, none⟩) hl).trans c1, (hb.cell (p := ⟨b, _, none⟩) hl).trans c2, (hb.cell (p := ⟨b, _, none⟩) hl).trans c3, ht.below hb⟩
structure GoodR (r : RuleV) : Prop where
 target : nameB r.target.data.toList = true
 room : r.target.size ≤ 1000000
 some_ : 1 ≤ r.needs.length
 few : r.needs.length ≤ 8
 one : r.op = 5 → r.needs.length = 1
 names : ∀ s ∈ r.needs, nameB s.data.toList = true ∧ s.size ≤ 1000000
 op1 : 1 ≤ r.op
 op6 : r.op ≤ 6
 add1 : -2147483648 ≤ r.add
 add2 : r.add ≤ 2147483648
 div : r.op = 5 → 1 ≤ r.add
set_option maxRecDepth 100000 in
theorem disOp_any (n : Int) (w : World) (h1 : 1 ≤ n) (h2 : n ≤ 6) :
  Calls Tryz.prog 57 #[.int .i64 n] w fun e w' => e = .returned (.bool true) ∧ w = w' := by
 go_enter Tryz.func57, Tryz.ntmps57
 go_wp2
 go_ret
 exact ⟨rfl, rfl⟩
set_option maxRecDepth 100000 in
theorem daddMay_any (m : RuleM) (w : World) (h : GoodR m.x) :
  Calls Tryz.prog 58 #[rAgg m] w fun e w' => e = .returned (.bool true) ∧ Below w.heap.size w w' := by
 unfold rAgg
 have HB : Hid (∀ o, Below w.heap.size w (w.alloc o)) := Lib.hid fun o => below_one w o
 have h1 := h.add1
 have h2 := h.add2
 have h5 := h.div
 clear h
 obtain ⟨⟨tg, ns, op, ad⟩, a, c⟩ := m
 simp only at h1 h2 h5 ⊢
 generalize ns.length = n
 by_cases hop : op = 5
 ·have h3 := h5 hop
  subst hop
  clear h5
  go_enter Tryz.func58, Tryz.ntmps58
  go_wp2
  go_ret
  exact ⟨rfl, HB.out _⟩
 ·have d1 : (op == 5) = false := beq_eq_false_iff_ne.2 hop
  clear h5
  go_enter Tryz.func58, Tryz.ntmps58
  go_wp2
  go_ret
  exact ⟨rfl, HB.out _⟩
set_option maxHeartbeats 1600000 in
set_option maxRecDepth 100000 in
theorem dneedsMay_any (m : RuleM) (w : World) (h : GoodR m.x) (ht : TxAt w m.a m.x.needs) (hT : Tab w) :
  Calls Tryz.prog 56 #[rAgg m] w fun e w' => e = .returned (.bool true) ∧ Below w.heap.size w w' := by
 unfold rAgg
 obtain ⟨⟨tg, ns, op, ad⟩, a, c⟩ := m
 have h1 := h.some_
 have h2 := h.few
 have h5 := h.one
 have HN := Lib.hid h.names
 have HT := Lib.hid ht
 have HTb := Lib.hid hT
 simp only at h1 h2 h5 HN HT ⊢
 obtain ⟨n, hn⟩ : ∃ n, ns.length = n := ⟨_, rfl⟩
 have HL := Lib.hid hn
 rw [hn] at h1 h2 h5 ⊢
 have q1 : ((n : Int) == 0) = false := beq_eq_false_iff_ne.2 (by omega)
 have HB : Hid (∀ o, Below w.heap.size w (w.alloc o)) := Lib.hid fun o => below_one w o
 clear h ht hT hn
 by_cases hop : op = 5
 ·have h3 := h5 hop
  subst hop
  have q5 : ¬ 1 < (n : Int) := by omega
  clear h5
  go_enter Tryz.func56, Tryz.ntmps56
  go_wp2
  go_loopw [5, 23] (fun _ i wr => ∃ t : Nat, i = .int .i64 t ∧ t ≤ n ∧ Hid (Below w.heap.size w wr)) (fun _ i _ => n - (intOf i).toNat)
  case atStart => exact ⟨0, rfl, by omega, Lib.hid (HB.out _)⟩
  case round =>
   obtain ⟨t, rfl, ht, HK⟩ := hrel
   by_cases hlt : t < n
   ·have q2 : (t : Int) < (n : Nat) := by omega
    have q3 : (0 : Int) ≤ t := by omega
    have hk : t < ns.length := by rw [HL.out]; exact hlt
    obtain ⟨b, off, rfl, hbl, hc⟩ := (HT.out.below HK.out) t hk
    obtain ⟨hnm, hsz⟩ := HN.out _ (List.getElem_mem hk)
    generalize ns[t] = s at hc hnm hsz
    have HS : Hid (Calls Tryz.prog 55 #[.string s] wr fun e w' => e = .returned (.bool true) ∧ wr = w') := Lib.hid (by
     have := isName_any s wr (HTb.out.below HK.out) (by unfold maxLen; omega)
     rw [hnm] at this
     exact this)
    clear hnm hsz hk
    go_wp2_with fail
    refine HS.out.mono ?_
    rintro e w2 ⟨rfl, rfl⟩
    go_wp2
    go_roundw
    case rel => exact ⟨t + 1, by go_num, by omega, HK⟩
    case measure => simp [intOf]; omega
   ·have q2 : ¬ (t : Int) < (n : Nat) := by omega
    go_wp2
    go_ret
    exact ⟨rfl, HK.out⟩
 ·have d1 : (op == 5) = false := beq_eq_false_iff_ne.2 hop
  have q5 : ¬ 8 < (n : Int) := by omega
  clear h5
  go_enter Tryz.func56, Tryz.ntmps56
  go_wp2
  go_loopw [5, 23] (fun _ i wr => ∃ t : Nat, i = .int .i64 t ∧ t ≤ n ∧ Hid (Below w.heap.size w wr)) (fun _ i _ => n - (intOf i).toNat)
  case atStart => exact ⟨0, rfl, by omega, Lib.hid (HB.out _)⟩
  case round =>
   obtain ⟨t, rfl, ht, HK⟩ := hrel
   by_cases hlt : t < n
   ·have q2 : (t : Int) < (n : Nat) := by omega
    have q3 : (0 : Int) ≤ t := by omega
    have hk : t < ns.length := by rw [HL.out]; exact hlt
    obtain ⟨b, off, rfl, hbl, hc⟩ := (HT.out.below HK.out) t hk
    obtain ⟨hnm, hsz⟩ := HN.out _ (List.getElem_mem hk)
    generalize ns[t] = s at hc hnm hsz
    have HS : Hid (Calls Tryz.prog 55 #[.string s] wr fun e w' => e = .returned (.bool true) ∧ wr = w') := Lib.hid (by
     have := isName_any s wr (HTb.out.below HK.out) (by unfold maxLen; omega)
     rw [hnm] at this
     exact this)
    clear hnm hsz hk
    go_wp2_with fail
    refine HS.out.mono ?_
    rintro e w2 ⟨rfl, rfl⟩
    go_wp2
    go_roundw
    case rel => exact ⟨t + 1, by go_num, by omega, HK⟩
    case measure => simp [intOf]; omega
   ·have q2 : ¬ (t : Int) < (n : Nat) := by omega
    go_wp2
    go_ret
    exact ⟨rfl, HK.out⟩
end Go.Proofs.YtlcgfdijohgnpaaGreatDoor

namespace Go.Proofs.YtlcgfdijohgnpaaGreatDoor
open Go.ChangeShapes Go.WideShapes Go.ChangeAt Go.RowKit

theorem two_new (w : World) (a b : Obj) : Below w.heap.size w ((w.alloc a).alloc b) ∧ ((w.alloc a).alloc b).heap.size = w.heap.size + 2 ∧ ((w.alloc a).alloc b).heap[w.heap.size]? = some a ∧ ((w.alloc a).alloc b).heap[w.heap.size + 1]? = some b := by
 have h1 := below_one w a
 have h2 := below_one (w.alloc a) b
 have hs : (w.alloc a).heap.size = w.heap.size + 1 := by simp
 have n2 := heap_alloc_new (w.alloc a) b
 rw [hs] at n2
 exact ⟨h1.trans (h2.mono h1.size), by simp, (h2.block _ (by omega)).trans (heap_alloc_new w a), n2⟩
theorem three_new (w : World) (a b c : Obj) : Below w.heap.size w (((w.alloc a).alloc b).alloc c) ∧ (((w.alloc a).alloc b).alloc c).heap.size = w.heap.size + 3 ∧ (((w.alloc a).alloc b).alloc c).heap[w.heap.size]? = some a ∧ (((w.alloc a).alloc b).alloc c).heap[w.heap.size + 1]? = some b ∧ (((w.alloc a).alloc b).alloc c).heap[w.heap.size + 2]? = some c := by
 obtain ⟨h1, hs, n0, n1⟩ := two_new w a b
 generalize (w.alloc a).alloc b = W at *
 have h2 := below_one W c
 have n2 := heap_alloc_new W c
 rw [hs] at n2
 exact ⟨h1.trans (h2.mono h1.size), by simp [hs], (h2.block _ (by omega)).trans n0, (h2.block _ (by omega)).trans n1, n2⟩
theorem four_new (w : World) (a b c d : Obj) : Below w.heap.size w ((((w.alloc a).alloc b).alloc c).alloc d) ∧ ((((w.alloc a).alloc b).alloc c).alloc d).heap.size = w.heap.size + 4 ∧ ((((w.alloc a).alloc b).alloc c).alloc d).heap[w.heap.size]? = some a ∧ ((((w.alloc a).alloc b).alloc c).alloc d).heap[w.heap.size + 1]? = some b ∧ ((((w.alloc a).alloc b).alloc c).alloc d).heap[w.heap.size + 2]? = some c ∧ ((((w.alloc a).alloc b).alloc c).alloc d).heap[w.heap.size + 3]? = some d := by
 obtain ⟨h1, hs, n0, n1, n2⟩ := three_new w a b c
 generalize ((w.alloc a).alloc b).alloc c = W at *
 have h2 := below_one W d
 have n3 := heap_alloc_new W d
 rw [hs] at n3
 exact ⟨h1.trans (h2.mono h1.size), by simp [hs], (h2.block _ (by omega)).trans n0, (h2.block _ (by omega)).trans n1, (h2.block _ (by omega)).trans n2, n3⟩
theorem infoRule : (Tryz.prog.info? 28).map (fun i => (i.zero, i.size, i.bytes)) = some (some (.agg #[.string ByteArray.empty, .slice none 0 0, .int .i64 0, .int .i64 0]), 4, 56) := by kernel_rfl
set_option maxHeartbeats 1600000 in
set_option maxRecDepth 100000 in
theorem dgrow_any (n : Nat) (w : World) (h0 : 0 < n) (h1 : n ≤ 1000) :
  Calls Tryz.prog 31 #[.slice none 0 0, .int .i64 n] w fun e w' => ∃ c, e = .returned (.slice (some ⟨w.heap.size, 0, none⟩) 0 c) ∧ w'.ownsRow w.heap.size 28 4 (.slice (some ⟨w.heap.size, 0, none⟩) 0 c) 0 [] ∧ Below w.heap.size w w' := by
 have HR : ∃ c' cur, (∀ ty, (Builtin.append_ #[23, 3] ty #[.slice none 0 0, .int .i64 n]).run Tryz.prog w = .ok (.slice (some ⟨w.heap.size, 0, none⟩) n c') (w.drew.alloc (.cells cur 28))) ∧ n ≤ c' ∧ c' ≤ maxLen ∧ cur.size = c' * 4 := by
  obtain ⟨i0, hi, hz0, hz1, hz2⟩ := info_parts infoRule
  have hle := grownCap_ge w (0 + n) 0 28
  have hr := fun ty => Lib.run_append_grow_zeros (P := Tryz.prog) w 23 3 ty 28 i0 _ .i64 .i64 Tryz.underlying23 Tryz.underlying3 hi hz0 none 0 0 [] (run_firstCells_none _ _ _ _ _) n h0 (by rw [hz1]; decide) (by omega) (by omega) (by rw [hz2]; omega) (growslice_fits (by omega) (by rw [hz2]; omega))
  simp only [Nat.zero_add] at hr hle
  refine ⟨_, _, hr, hle, grownCap_le_maxLen _ _ _ _ (by unfold maxLen; omega), ?_⟩
  rw [Array.size_append, Array.size_append, size_zeroCells, size_zeroCells]
  show 0 + n * 4 + (_ - n) * 4 = _
  omega
 obtain ⟨c', cur, hr, hc1, hc2, hc3⟩ := HR
 have HE : Hid ((w.drew.alloc (.cells cur 28)).ownsRow w.heap.size 28 4 (.slice (some ⟨w.heap.size, 0, none⟩) 0 c') 0 [] ∧ Below w.heap.size w (w.drew.alloc (.cells cur 28))) := Lib.hid ⟨⟨rfl, .inr ⟨w.heap.size, c', cur, rfl, Nat.le_refl _, heap_alloc_new w.drew _, Nat.zero_le _, hc2, hc3, by simp⟩⟩, below_drew_alloc w _⟩
 have q1 : ¬ (n : Int) < 0 := by omega
 have q2 : (0 : Int) < n := by omega
 clear hc2 hc3
 go_enter Tryz.func31, Tryz.ntmps31
 have HR := Lib.hid hr
 clear hr
 go_wp2_with (at_builtin; refine wpList_append_eq rfl _ _ _ _ rfl _ _ _ rfl rfl (HR.out _) ?_)
 go_ret
 exact ⟨c', rfl, HE.out⟩
theorem appendRl {ops : Array Oper} {rest : List Oper} {o : Oper} {a : Act} {Q : Exit → Act → World → Prop} (hgd : o.guard = none) (s x : Operand)
  (ho : o.op = .call { callee := .builtin .append, args := #[s, x], argTypes := #[23, 23] }) {B n : Nat} {w : World} {v : Value} {vs : List Value} (hown : w.ownsRow B 28 4 v n vs) (hB : B ≤ w.heap.size) (hn : n ≤ 10000000) (hs : a.eval s = v)
  {m c g : Nat} {us : List Value} (hx : a.eval x = .slice (some ⟨g, 0, none⟩) m c) (hl : us.length = m * 4) (hm : 0 < m) (hm2 : m ≤ 10000000) (hu : ∀ j u, us[j]? = some u → w.cell? ⟨g, j, none⟩ = some u) (h1 : ∀ u ∈ us, u.oneCell' = true)
  (h : ∀ y cap w', w'.ownsRow B 28 4 (.slice (some ⟨y, 0, none⟩) (n + m) cap) (n + m) (vs ++ us) → w.grownBy w' v.ownBlock → (v.ownBlock = some y ∨ y = w.heap.size) → wpList Tryz.prog ops Q rest (a.put o.dst (.slice (some ⟨y, 0, none⟩) (n + m) cap)) w') :
  wpList Tryz.prog ops Q (o :: rest) a w := by
 obtain ⟨i0, hi, hz0, hz1, hz2⟩ := info_parts infoRule
 refine wpList_append_lies _ hgd s x _ ho B 28 i0 _ 4 56 Tryz.underlying23 hi hz0 hz1 hz2 rfl (by decide) v n vs hs hown ⟨g, 0, none⟩ m c us hx hl (fun j u hj => by rw [add_at, Nat.zero_add]; exact hu j u hj) h1 hm (by unfold maxLen; omega) (by omega) hB _ rfl ?_
 intro y cap w1 h1 h2 h3 _
 exact h y cap w1 h1 h2 h3
set_option maxHeartbeats 3200000 in
set_option maxRecDepth 100000 in
theorem dconcat_any (w : World) (C b0 b1 n0 n1 c0 c1 : Nat) (l0 l1 : List Value) (hC0 : w.cell? ⟨C, 0, none⟩ = some (.slice (some ⟨b0, 0, none⟩) n0 c0)) (hC1 : w.cell? ⟨C, 1, none⟩ = some (.slice (some ⟨b1, 0, none⟩) n1 c1))
  (h0 : 0 < n0) (h1 : 0 < n1) (h2 : n0 + n1 ≤ 1000) (hl0 : l0.length = n0 * 4) (hl1 : l1.length = n1 * 4) (hc0 : ∀ j u, l0[j]? = some u → w.cell? ⟨b0, j, none⟩ = some u) (hc1 : ∀ j u, l1[j]? = some u → w.cell? ⟨b1, j, none⟩ = some u) (ho0 : ∀ u ∈ l0, u.oneCell' = true) (ho1 : ∀ u ∈ l1, u.oneCell' = true) :
  Calls Tryz.prog 12 #[.slice (some ⟨C, 0, none⟩) 2 2] w fun e w' => ∃ g c, e = .returned (.slice (some ⟨g, 0, none⟩) (n0 + n1) c) ∧ w'.ownsRow w.heap.size 28 4 (.slice (some ⟨g, 0, none⟩) (n0 + n1) c) (n0 + n1) (l0 ++ l1) ∧ Below w.heap.size w w' := by
 have HG : Hid (∀ W, Calls Tryz.prog 31 #[.slice none 0 0, .int .i64 ((n0 + n1 : Nat) : Int)] W fun e w' => ∃ c, e = .returned (.slice (some ⟨W.heap.size, 0, none⟩) 0 c) ∧ w'.ownsRow W.heap.size 28 4 (.slice (some ⟨W.heap.size, 0, none⟩) 0 c) 0 [] ∧ Below W.heap.size W w') := Lib.hid fun W => dgrow_any (n0 + n1) W (by omega) h2
 have HC : Hid (∀ W, Below w.heap.size w W → W.cell? ⟨C, 0, none⟩ = some (.slice (some ⟨b0, 0, none⟩) n0 c0) ∧ W.cell? ⟨C, 1, none⟩ = some (.slice (some ⟨b1, 0, none⟩) n1 c1)) := Lib.hid fun W hb => ⟨(hb.cell (p := ⟨C, 0, none⟩) (lt_of_cell hC0)).trans hC0, (hb.cell (p := ⟨C, 1, none⟩) (lt_of_cell hC1)).trans hC1⟩
 have HU0 : Hid (∀ W, Below w.heap.size w W → ∀ j u, l0[j]? = some u → W.cell? ⟨b0, j, none⟩ = some u) := Lib.hid fun W hb j u hj => (hb.cell (p := ⟨b0, j, none⟩) (lt_of_cell (hc0 j u hj))).trans (hc0 j u hj)
 have HU1 : Hid (∀ W, Below w.heap.size w W → ∀ j u, l1[j]? = some u → W.cell? ⟨b1, j, none⟩ = some u) := Lib.hid fun W hb j u hj => (hb.cell (p := ⟨b1, j, none⟩) (lt_of_cell (hc1 j u hj))).trans (hc1 j u hj)
 have HO := Lib.hid (And.intro hl0 (And.intro hl1 (And.intro ho0 ho1)))
 have HN := Lib.hid (And.intro h0 (And.intro h1 h2))
 have q1 : (0 : Int) ≤ n0 := by omega
 have q2 : (0 : Int) ≤ (n0 : Int) + n1 := by omega
 have q3 : ¬ (n0 : Int) < 0 := by omega
 have q4 : ¬ (n0 : Int) + n1 < 0 := by omega
 clear hC0 hC1 hl0 hl1 hc0 hc1 ho0 ho1
 go_enter Tryz.func12, Tryz.ntmps12
 go_wp2
 go_loopw [3, 5, 11] (fun s _ i wr => w = wr ∧ ((i = .int .i64 0 ∧ s = .int .i64 0) ∨ (i = .int .i64 1 ∧ s = .int .i64 n0) ∨ (i = .int .i64 2 ∧ s = .int .i64 ((n0 + n1 : Nat) : Int)))) (fun _ _ i _ => 2 - (intOf i).toNat)
 case atStart => exact ⟨rfl, .inl ⟨rfl, rfl⟩⟩
 case round =>
  obtain ⟨rfl, ⟨rfl, rfl⟩ | ⟨rfl, rfl⟩ | ⟨rfl, rfl⟩⟩ := hrel
  ·obtain ⟨k0, k1⟩ := HC.out w (Below.refl _ _)
   go_wp2
   go_roundw
   case rel => first | exact ⟨trivial, .inr (.inl ⟨rfl, rfl⟩)⟩ | exact ⟨rfl, .inr (.inl ⟨rfl, rfl⟩)⟩ | (trace_state; fail)
   case measure => simp [intOf]
  ·obtain ⟨k0, k1⟩ := HC.out w (Below.refl _ _)
   go_wp2
   go_roundw
   case rel => first | exact ⟨trivial, .inr (.inr ⟨rfl, by simp⟩)⟩ | (trace_state; fail)
   case measure => simp [intOf]
  ·have hG := HG.out w
   clear HG
   go_wp2_with fail
   refine hG.mono ?_
   rintro e w1 ⟨c, rfl, hr1, hb1⟩
   have HR1 := Lib.hid hr1
   have HB1 := Lib.hid hb1
   clear hr1 hb1 hG
   go_wp2
   go_loopw [6, 8, 27] (fun v _ i wr => Below w.heap.size w wr ∧ ((i = .int .i64 0 ∧ v = .slice (some ⟨w.heap.size, 0, none⟩) 0 c ∧ wr.ownsRow w.heap.size 28 4 v 0 []) ∨ (i = .int .i64 1 ∧ ∃ g d, v = .slice (some ⟨g, 0, none⟩) n0 d ∧ wr.ownsRow w.heap.size 28 4 v n0 l0) ∨ (i = .int .i64 2 ∧ ∃ g d, v = .slice (some ⟨g, 0, none⟩) (n0 + n1) d ∧ wr.ownsRow w.heap.size 28 4 v (n0 + n1) (l0 ++ l1)))) (fun _ _ i _ => 2 - (intOf i).toNat)
   case atStart => exact ⟨HB1.out, .inl ⟨rfl, rfl, HR1.out⟩⟩
   case round =>
    obtain ⟨hbr, ⟨rfl, rfl, hrr⟩ | ⟨rfl, g, d, rfl, hrr⟩ | ⟨rfl, g, d, rfl, hrr⟩⟩ := hrel
    ·obtain ⟨k0, k1⟩ := HC.out wr hbr
     have HBR := Lib.hid hbr
     have HRR := Lib.hid hrr
     clear hbr hrr
     go_wp2_with (at_builtin; refine appendRl rfl _ _ rfl HRR.out HBR.out.size (by omega) rfl rfl HO.out.1 (by omega) (by omega) (HU0.out wr HBR.out) HO.out.2.2.1 ?_; intro y cap w2 hr2 hg2 _; have HR2 := Lib.hid hr2; have HB2 := Lib.hid (HBR.out.grown hg2 HBR.out.size (fun k hk => (HRR.out.lt k hk).1)); clear hr2 hg2)
     go_roundw
     case rel => exact ⟨HB2.out, .inr (.inl ⟨rfl, y, cap, by simp, by simpa using HR2.out⟩)⟩
     case measure => simp [intOf]
    ·obtain ⟨k0, k1⟩ := HC.out wr hbr
     have HBR := Lib.hid hbr
     have HRR := Lib.hid hrr
     clear hbr hrr
     go_wp2_with (at_builtin; refine appendRl rfl _ _ rfl HRR.out HBR.out.size (by omega) rfl rfl HO.out.2.1 (by omega) (by omega) (HU1.out wr HBR.out) HO.out.2.2.2 ?_; intro y cap w2 hr2 hg2 _; have HR2 := Lib.hid hr2; have HB2 := Lib.hid (HBR.out.grown hg2 HBR.out.size (fun k hk => (HRR.out.lt k hk).1)); clear hr2 hg2)
     go_roundw
     case rel => exact ⟨HB2.out, .inr (.inr ⟨rfl, y, cap, rfl, HR2.out⟩)⟩
     case measure => simp [intOf]
    ·have HBR := Lib.hid hbr
     have HRR := Lib.hid hrr
     clear hbr hrr
     go_wp2
     go_ret
     exact ⟨g, d, rfl, HRR.out, HBR.out⟩
def sRule (t : ByteArray) (b : Nat) (op add : Int) : List Value := [.string t, .slice (some ⟨b, 0, none⟩) 1 1, .int .i64 op, .int .i64 add]
def stdRow (b1 b2 b3 : Nat) : List Value := (sRule ⟨#[98, 111, 111, 116, 46, 108, 105, 109, 105, 116]⟩ b1 4 16 ++ sRule ⟨#[98, 111, 111, 116, 46, 119, 111, 114, 107, 101, 114, 115]⟩ b2 6 1) ++ sRule ⟨#[115, 116, 111, 114, 101, 46, 112, 97, 103, 101]⟩ b3 5 1024
def stdRM (b1 b2 b3 : Nat) : List RuleM := [⟨⟨⟨#[98, 111, 111, 116, 46, 108, 105, 109, 105, 116]⟩, [⟨#[98, 111, 111, 116, 46, 119, 111, 114, 107, 101, 114, 115]⟩], 4, 16⟩, some ⟨b1, 0, none⟩, 1⟩, ⟨⟨⟨#[98, 111, 111, 116, 46, 119, 111, 114, 107, 101, 114, 115]⟩, [⟨#[98, 111, 111, 116, 46, 115, 101, 114, 118, 105, 99, 101, 115]⟩], 6, 1⟩, some ⟨b2, 0, none⟩, 1⟩, ⟨⟨⟨#[115, 116, 111, 114, 101, 46, 112, 97, 103, 101]⟩, [⟨#[115, 116, 111, 114, 101, 46, 99, 97, 99, 104, 101]⟩], 5, 1024⟩, some ⟨b3, 0, none⟩, 1⟩]
structure StdAt (N M : Nat) (w : World) (g c b1 b2 b3 : Nat) : Prop where
 row : w.ownsRow N 28 4 (.slice (some ⟨g, 0, none⟩) 3 c) 3 (stdRow b1 b2 b3)
 n1 : w.heap[b1]? = some (Obj.cells #[.string ⟨#[98, 111, 111, 116, 46, 119, 111, 114, 107, 101, 114, 115]⟩] 9)
 n2 : w.heap[b2]? = some (Obj.cells #[.string ⟨#[98, 111, 111, 116, 46, 115, 101, 114, 118, 105, 99, 101, 115]⟩] 9)
 n3 : w.heap[b3]? = some (Obj.cells #[.string ⟨#[115, 116, 111, 114, 101, 46, 99, 97, 99, 104, 101]⟩] 9)
 l1 : N ≤ b1 ∧ b1 < M
 l2 : N ≤ b2 ∧ b2 < M
 l3 : N ≤ b3 ∧ b3 < M
 lg : N ≤ g ∧ g < M
theorem StdAt.rules {N M : Nat} {w : World} {g c b1 b2 b3 : Nat} (h : StdAt N M w g c b1 b2 b3) : RulesAt w (some ⟨g, 0, none⟩) (stdRM b1 b2 b3) := fun i hi => by
 have hc := fun j hj => h.row.cellAt j hj
 have hg := (h.row.lt g rfl).2
 have ht : ∀ (b : Nat) (s : ByteArray), w.heap[b]? = some (Obj.cells #[.string s] 9) → TxAt w (some ⟨b, 0, none⟩) [s] := fun b s hb k hk => by
  obtain rfl : k = 0 := by simpa using hk
  exact ⟨b, 0, rfl, heap_lt hb, by rw [cell_of_row w b 0 _ _ _ hb]; rfl⟩
 have h3 : i = 0 ∨ i = 1 ∨ i = 2 := by simp [stdRM] at hi; omega
 rcases h3 with rfl | rfl | rfl
 ·exact ⟨g, rfl, hg, hc 0 (by decide), hc 1 (by decide), hc 2 (by decide), hc 3 (by decide), ht _ _ h.n1⟩
 ·exact ⟨g, rfl, hg, hc 4 (by decide), hc 5 (by decide), hc 6 (by decide), hc 7 (by decide), ht _ _ h.n2⟩
 ·exact ⟨g, rfl, hg, hc 8 (by decide), hc 9 (by decide), hc 10 (by decide), hc 11 (by decide), ht _ _ h.n3⟩
theorem StdAt.below {N M : Nat} {w w' : World} {g c b1 b2 b3 : Nat} (h : StdAt N M w g c b1 b2 b3) (hb : Below w.heap.size w w') : StdAt N M w' g c b1 b2 b3 :=
 ⟨rowBelow h.row hb, (hb.block b1 (heap_lt h.n1)).trans h.n1, (hb.block b2 (heap_lt h.n2)).trans h.n2, (hb.block b3 (heap_lt h.n3)).trans h.n3, h.l1, h.l2, h.l3, h.lg⟩
set_option maxHeartbeats 1600000 in
set_option maxRecDepth 100000 in
theorem dboot_any (w : World) : Calls Tryz.prog 13 #[] w fun e w' => e = .returned (.slice (some ⟨w.heap.size + 2, 0, none⟩) 2 2) ∧
  w' = ((w.alloc (Obj.cells #[.string ⟨#[98, 111, 111, 116, 46, 119, 111, 114, 107, 101, 114, 115]⟩] 9)).alloc (Obj.cells #[.string ⟨#[98, 111, 111, 116, 46, 115, 101, 114, 118, 105, 99, 101, 115]⟩] 9)).alloc (Obj.cells (sRule ⟨#[98, 111, 111, 116, 46, 108, 105, 109, 105, 116]⟩ w.heap.size 4 16 ++ sRule ⟨#[98, 111, 111, 116, 46, 119, 111, 114, 107, 101, 114, 115]⟩ (w.heap.size + 1) 6 1).toArray 28) := by
 go_enter Tryz.func13, Tryz.ntmps13
 go_wp2
 go_ret
 exact ⟨rfl, rfl⟩
set_option maxHeartbeats 1600000 in
set_option maxRecDepth 100000 in
theorem dstore_any (w : World) : Calls Tryz.prog 14 #[] w fun e w' => e = .returned (.slice (some ⟨w.heap.size + 1, 0, none⟩) 1 1) ∧
  w' = (w.alloc (Obj.cells #[.string ⟨#[115, 116, 111, 114, 101, 46, 99, 97, 99, 104, 101]⟩] 9)).alloc (Obj.cells (sRule ⟨#[115, 116, 111, 114, 101, 46, 112, 97, 103, 101]⟩ w.heap.size 5 1024).toArray 28) := by
 go_enter Tryz.func14, Tryz.ntmps14
 go_wp2
 go_ret
 exact ⟨rfl, rfl⟩
theorem cells_one8 (a b : ByteArray) (x y : Nat) (p q r s : Int) : ∀ u ∈ sRule a x p q ++ sRule b y r s, u.oneCell' = true := by
 intro u hu
 simp only [sRule, List.cons_append, List.nil_append, List.mem_cons, List.not_mem_nil, or_false] at hu
 rcases hu with rfl | rfl | rfl | rfl | rfl | rfl | rfl | rfl <;> rfl
theorem cells_one4 (a : ByteArray) (x : Nat) (p q : Int) : ∀ u ∈ sRule a x p q, u.oneCell' = true := by
 intro u hu
 simp only [sRule, List.mem_cons, List.not_mem_nil, or_false] at hu
 rcases hu with rfl | rfl | rfl | rfl <;> rfl
set_option maxHeartbeats 3200000 in
set_option maxRecDepth 100000 in
theorem dstandard_any (w : World) : Calls Tryz.prog 6 #[] w fun e w' => ∃ g c b1 b2 b3, e = .returned (.slice (some ⟨g, 0, none⟩) 3 c) ∧ StdAt w.heap.size w'.heap.size w' g c b1 b2 b3 ∧ Below w.heap.size w w' := by
 have HBT := Lib.hid (dboot_any w)
 have HST : Hid (∀ W, Calls Tryz.prog 14 #[] W fun e w' => e = .returned (.slice (some ⟨W.heap.size + 1, 0, none⟩) 1 1) ∧
  w' = (W.alloc (Obj.cells #[.string ⟨#[115, 116, 111, 114, 101, 46, 99, 97, 99, 104, 101]⟩] 9)).alloc (Obj.cells (sRule ⟨#[115, 116, 111, 114, 101, 46, 112, 97, 103, 101]⟩ W.heap.size 5 1024).toArray 28)) := Lib.hid dstore_any
 go_enter Tryz.func6, Tryz.ntmps6
 go_wp2_with fail
 refine HBT.out.mono ?_
 rintro e w1 ⟨rfl, hw1⟩
 have HW1 : Hid (Below w.heap.size w w1 ∧ w1.heap.size = w.heap.size + 3 ∧ w1.heap[w.heap.size]? = some (Obj.cells #[ .string ⟨#[98, 111, 111, 116, 46, 119, 111, 114, 107, 101, 114, 115]⟩] 9) ∧ w1.heap[w.heap.size + 1]? = some (Obj.cells #[ .string ⟨#[98, 111, 111, 116, 46, 115, 101, 114, 118, 105, 99, 101, 115]⟩] 9) ∧ w1.heap[w.heap.size + 2]? = some (Obj.cells (sRule ⟨#[98, 111, 111, 116, 46, 108, 105, 109, 105, 116]⟩ w.heap.size 4 16 ++ sRule ⟨#[98, 111, 111, 116, 46, 119, 111, 114, 107, 101, 114, 115]⟩ (w.heap.size + 1) 6 1).toArray 28)) := Lib.hid (by
  subst hw1
  exact three_new w _ _ _)
 have hST := HST.out w1
 clear hw1 HBT HST
 go_wp2_with fail
 refine hST.mono ?_
 rintro e w2 ⟨rfl, hw2⟩
 have HW2 : Hid (Below w.heap.size w w2 ∧ w2.heap.size = w.heap.size + 5 ∧ w2.heap[w.heap.size]? = some (Obj.cells #[ .string ⟨#[98, 111, 111, 116, 46, 119, 111, 114, 107, 101, 114, 115]⟩] 9) ∧ w2.heap[w.heap.size + 1]? = some (Obj.cells #[ .string ⟨#[98, 111, 111, 116, 46, 115, 101, 114, 118, 105, 99, 101, 115]⟩] 9) ∧ w2.heap[w.heap.size + 2]? = some (Obj.cells (sRule ⟨#[98, 111, 111, 116, 46, 108, 105, 109, 105, 116]⟩ w.heap.size 4 16 ++ sRule ⟨#[98, 111, 111, 116, 46, 119, 111, 114, 107, 101, 114, 115]⟩ (w.heap.size + 1) 6 1).toArray 28) ∧ w2.heap[w.heap.size + 3]? = some (Obj.cells #[.string ⟨#[115, 116, 111, 114, 101, 46, 99, 97, 99, 104, 101]⟩] 9) ∧ w2.heap[w.heap.size + 4]? = some (Obj.cells (sRule ⟨#[115, 116, 111, 114, 101, 46, 112, 97, 103, 101]⟩ (w.heap.size + 3) 5 1024).toArray 28)) := Lib.hid (by
  obtain ⟨hb, hs, h1, h2, h3⟩ := HW1.out
  have h4 := two_new w1 (Obj.cells #[.string ⟨#[115, 116, 111, 114, 101, 46, 99, 97, 99, 104, 101]⟩] 9) (Obj.cells (sRule ⟨#[115, 116, 111, 114, 101, 46, 112, 97, 103, 101]⟩ w1.heap.size 5 1024).toArray 28)
  rw [← hw2, hs] at h4
  obtain ⟨hb2, hs2, n0, n1⟩ := h4
  exact ⟨hb.trans (hb2.mono (by omega)), hs2, (hb2.block _ (by omega)).trans h1, (hb2.block _ (by omega)).trans h2, (hb2.block _ (by omega)).trans h3, n0, n1⟩)
 obtain ⟨s1, hs1⟩ : ∃ s1, w1.heap.size + 1 = s1 := ⟨_, rfl⟩
 have HS1 : Hid (s1 = w.heap.size + 4) := Lib.hid (by rw [← hs1, HW1.out.2.1])
 rw [hs1]
 clear hw2 hST hs1
 obtain ⟨W3, hW3⟩ : ∃ W3, w2.alloc (Obj.cells #[.slice (some ⟨w.heap.size + 2, 0, none⟩) 2 2, .slice (some ⟨s1, 0, none⟩) 1 1] 23) = W3 := ⟨_, rfl⟩
 have HW3 := Lib.hid hW3
 have HCC : Hid (Calls Tryz.prog 12 #[.slice (some ⟨w2.heap.size, 0, none⟩) 2 2] W3 fun e w' => ∃ g c, e = .returned (.slice (some ⟨g, 0, none⟩) 3 c) ∧ w'.ownsRow W3.heap.size 28 4 (.slice (some ⟨g, 0, none⟩) 3 c) 3 (stdRow w.heap.size (w.heap.size + 1) (w.heap.size + 3)) ∧ Below W3.heap.size W3 w') := Lib.hid (by
  obtain ⟨hb, hs, h1, h2, h3, h4, h5⟩ := HW2.out
  have hb3 : Below w2.heap.size w2 W3 := by rw [← hW3]; exact below_one w2 _
  exact dconcat_any W3 w2.heap.size (w.heap.size + 2) s1 2 1 2 1 (sRule ⟨#[98, 111, 111, 116, 46, 108, 105, 109, 105, 116]⟩ w.heap.size 4 16 ++ sRule ⟨#[98, 111, 111, 116, 46, 119, 111, 114, 107, 101, 114, 115]⟩ (w.heap.size + 1) 6 1) (sRule ⟨#[115, 116, 111, 114, 101, 46, 112, 97, 103, 101]⟩ (w.heap.size + 3) 5 1024) (by rw [← hW3]; simp) (by rw [← hW3]; simp) (by decide) (by decide) (by decide) rfl rfl
   (fun j u hu => by rw [hb3.cell (p := ⟨w.heap.size + 2, j, none⟩) (by show w.heap.size + 2 < _; omega), cell_of_row w2 _ j _ _ _ h3, List.getElem?_toArray]; exact hu)
   (fun j u hu => by rw [HS1.out, hb3.cell (p := ⟨w.heap.size + 4, j, none⟩) (by show w.heap.size + 4 < _; omega), cell_of_row w2 _ j _ _ _ h5, List.getElem?_toArray]; exact hu)
   (cells_one8 _ _ _ _ _ _ _ _) (cells_one4 _ _ _ _))
 clear hW3 HW1 HS1
 go_wp2_with fail
 rw [HW3.out]
 refine HCC.out.mono ?_
 rintro e w4 ⟨g, c, rfl, hr, hb4⟩
 have HE : Hid (StdAt w.heap.size w4.heap.size w4 g c w.heap.size (w.heap.size + 1) (w.heap.size + 3) ∧ Below w.heap.size w w4) := Lib.hid (by
  obtain ⟨hb, hs, h1, h2, h3, h4, h5⟩ := HW2.out
  have hb3 : Below w2.heap.size w2 W3 := by rw [← HW3.out]; exact below_one w2 _
  have hb5 : Below w2.heap.size w2 w4 := hb3.trans (hb4.mono hb3.size)
  have hl := hr.lt g rfl
  have hz := hb3.size
  have hz5 := hb5.size
  exact ⟨⟨ownLess hr (by omega), (hb5.block _ (by omega)).trans h1, (hb5.block _ (by omega)).trans h2, (hb5.block _ (by omega)).trans h4, by omega, by omega, by omega, by omega⟩, hb.trans (hb5.mono hb.size)⟩)
 clear hr hb4
 go_wp2
 go_ret
 exact ⟨g, c, _, _, _, rfl, HE.out⟩
set_option maxHeartbeats 1600000 in
set_option maxRecDepth 100000 in
theorem drefStandard_any (w : World) : Calls Tryz.prog 5 #[] w fun e w' => ∃ g c b1 b2 b3, e = .returned (.slice (some ⟨g, 0, none⟩) 3 c) ∧ StdAt w.heap.size w'.heap.size w' g c b1 b2 b3 ∧ Below w.heap.size w w' := by
 have HE : Hid (∀ W, W = (((w.alloc (Obj.cells #[ .string ⟨#[98, 111, 111, 116, 46, 119, 111, 114, 107, 101, 114, 115]⟩] 9)).alloc (Obj.cells #[ .string ⟨#[98, 111, 111, 116, 46, 115, 101, 114, 118, 105, 99, 101, 115]⟩] 9)).alloc (Obj.cells #[.string ⟨#[115, 116, 111, 114, 101, 46, 99, 97, 99, 104, 101]⟩] 9)).alloc (Obj.cells (stdRow w.heap.size (w.heap.size + 1) (w.heap.size + 2)).toArray 28) → StdAt w.heap.size W.heap.size W (w.heap.size + 3) 3 w.heap.size (w.heap.size + 1) (w.heap.size + 2) ∧ Below w.heap.size w W) := Lib.hid fun W hW => by
  have h4 := four_new w (Obj.cells #[.string ⟨#[98, 111, 111, 116, 46, 119, 111, 114, 107, 101, 114, 115]⟩] 9) (Obj.cells #[.string ⟨#[98, 111, 111, 116, 46, 115, 101, 114, 118, 105, 99, 101, 115]⟩] 9) (Obj.cells #[.string ⟨#[115, 116, 111, 114, 101, 46, 99, 97, 99, 104, 101]⟩] 9) (Obj.cells (stdRow w.heap.size (w.heap.size + 1) (w.heap.size + 2)).toArray 28)
  rw [← hW] at h4
  obtain ⟨hb, hs, n0, n1, n2, n3⟩ := h4
  refine ⟨⟨⟨rfl, .inr ⟨w.heap.size + 3, 3, _, rfl, by omega, n3, by omega, by unfold maxLen; omega, rfl, rfl⟩⟩, n0, n1, n2, by omega, by omega, by omega, by omega⟩, hb⟩
 go_enter Tryz.func5, Tryz.ntmps5
 go_wp2
 go_ret
 exact ⟨_, _, _, _, _, rfl, HE.out _ rfl⟩
end Go.Proofs.YtlcgfdijohgnpaaGreatDoor

namespace Go.Proofs.YtlcgfdijohgnpaaGreatDoor
open Go.ChangeShapes Go.WideShapes Go.ChangeAt Go.RowKit

set_option maxHeartbeats 1600000 in
set_option maxRecDepth 100000 in
theorem dright_any (m : RuleM) (w : World) (h : GoodR m.x) (ht : TxAt w m.a m.x.needs) (hT : Tab w) :
  Calls Tryz.prog 27 #[rAgg m] w fun e w' => e = .returned (.bool true) ∧ Below w.heap.size w w' := by
 have HB : Hid (∀ o, Below w.heap.size w (w.alloc o)) := Lib.hid fun o => below_one w o
 have HI : Hid (∀ W, Below w.heap.size w W → Calls Tryz.prog 55 #[.string m.x.target] W fun e w' => e = .returned (.bool true) ∧ W = w') := Lib.hid fun W hb => by
  have := isName_any m.x.target W (hT.below hb) (by have := h.room; unfold maxLen; omega)
  rw [h.target] at this
  exact this
 have HN : Hid (∀ W, Below w.heap.size w W → Calls Tryz.prog 56 #[rAgg m] W fun e w' => e = .returned (.bool true) ∧ Below W.heap.size W w') := Lib.hid fun W hb => dneedsMay_any m W h (ht.below hb) (hT.below hb)
 have HA : Hid (∀ W, Calls Tryz.prog 58 #[rAgg m] W fun e w' => e = .returned (.bool true) ∧ Below W.heap.size W w') := Lib.hid fun W => daddMay_any m W h
 have HO : Hid (∀ W, Calls Tryz.prog 57 #[.int .i64 m.x.op] W fun e w' => e = .returned (.bool true) ∧ W = w') := Lib.hid fun W => disOp_any m.x.op W h.op1 h.op6
 clear h ht hT
 unfold rAgg at HN HA ⊢
 obtain ⟨⟨tg, ns, op, ad⟩, a, c⟩ := m
 simp only at HI HN HA HO ⊢
 generalize ns.length = n at HN HA ⊢
 have HX : Hid (Box4 (w.alloc (Obj.cells #[.string tg, .slice a n c, .int .i64 op, .int .i64 ad] 28)) w.heap.size (.string tg) (.slice a n c) (.int .i64 op) (.int .i64 ad)) := Lib.hid (box4_new w _ _ _ _ _)
 have hi := HI.out _ (HB.out (Obj.cells #[.string tg, .slice a n c, .int .i64 op, .int .i64 ad] 28))
 have hn := HN.out _ (HB.out (Obj.cells #[.string tg, .slice a n c, .int .i64 op, .int .i64 ad] 28))
 go_enter Tryz.func27, Tryz.ntmps27
 go_wp2_with fail
 refine hi.mono ?_
 rintro e w1 ⟨rfl, rfl⟩
 go_wp2_with fail
 refine hn.mono ?_
 rintro e w2 ⟨rfl, hb2⟩
 obtain ⟨c0, c1, c2, c3, _, _, _, _⟩ := HX.out.below hb2
 have HB2 := Lib.hid ((HB.out _).trans (hb2.mono (HB.out _).size))
 have ho := HO.out w2
 have ha := HA.out w2
 clear hb2 hi hn
 go_wp2_with fail
 refine ho.mono ?_
 rintro e w3 ⟨rfl, rfl⟩
 go_wp2_with fail
 refine ha.mono ?_
 rintro e w4 ⟨rfl, hb4⟩
 have HB4 := Lib.hid (HB2.out.trans (hb4.mono HB2.out.size))
 clear hb4 ho ha
 go_wp2
 go_ret
 exact ⟨rfl, HB4.out⟩
end Go.Proofs.YtlcgfdijohgnpaaGreatDoor

namespace Go.Proofs.YtlcgfdijohgnpaaGreatDoor
open Go.ChangeShapes Go.WideShapes Go.ChangeAt Go.RowKit

set_option maxHeartbeats 1600000 in
set_option maxRecDepth 100000 in
theorem dcmp_any (W : World) (B g c i j : Nat) (s t : ByteArray) (hB : W.cell? ⟨B, 0, none⟩ = some (.slice (some ⟨g, 0, none⟩) 3 c)) (hi : W.cell? ⟨g, i * 4, none⟩ = some (.string s)) (hj : W.cell? ⟨g, j * 4, none⟩ = some (.string t)) (h1 : i < 3) (h2 : j < 3) :
  Calls Tryz.prog 60 #[.int .i64 i, .int .i64 j, .pointer (some ⟨B, 0, none⟩)] W fun e w' => e = .returned (.int .i64 (cmpB s t)) ∧ ∃ q, w' = W.drewN q := by
 have q1 : (0 : Int) ≤ i := by omega
 have q2 : (i : Int) < 3 := by omega
 have q3 : (0 : Int) ≤ j := by omega
 have q4 : (j : Int) < 3 := by omega
 have HC : Hid (∀ W, Calls Tryz.prog 53 #[.string s, .string t] W fun e w' => e = .returned (.int .i64 (cmpB s t)) ∧ W = w') := Lib.hid fun W => compare_any s t W
 go_enter Tryz.func60, Tryz.ntmps60
 go_wp2
 go_region_held3 (fun W => W.cell? ⟨B, 0, none⟩ = some (.slice (some ⟨g, 0, none⟩) 3 c) ∧ W.cell? ⟨g, i * 4, none⟩ = some (.string s) ∧ W.cell? ⟨g, j * 4, none⟩ = some (.string t)) (exact ⟨hB, hi, hj⟩) (first
  | (go_at_call 53; (with_reducible refine (HC.out _).mono ?_); rintro e w2 ⟨rfl, rfl⟩; dsimp only)
  | fail)
 go_wp2
 go_ret
 exact ⟨rfl, 1, rfl⟩
def sTgt : Fin 3 → ByteArray
 | ⟨0, _⟩ => ⟨#[98, 111, 111, 116, 46, 108, 105, 109, 105, 116]⟩
 | ⟨1, _⟩ => ⟨#[98, 111, 111, 116, 46, 119, 111, 114, 107, 101, 114, 115]⟩
 | ⟨_, _⟩ => ⟨#[115, 116, 111, 114, 101, 46, 112, 97, 103, 101]⟩
def encF (i : Fin 3) : Value := .int .i64 ((i : Nat) : Int)
def sCmp (i j : Fin 3) : Int := cmpB (sTgt i) (sTgt j)
theorem s_10 : (ltOf sCmp 1 0) = false := by kernel_rfl
theorem s_21 : (ltOf sCmp 2 1) = false := by kernel_rfl
theorem sorted3 : Go.Sort.insertionSort (ltOf sCmp) #[0, 1, 2] 0 3 = #[0, 1, 2] := by
 have h1 : ltOf sCmp (#[0, 1, 2] : Array (Fin 3))[0 + 1]! (#[0, 1, 2] : Array (Fin 3))[0]! = false := s_10
 have h2 : ltOf sCmp (#[0, 1, 2] : Array (Fin 3))[1 + 1]! (#[0, 1, 2] : Array (Fin 3))[1]! = false := s_21
 unfold Go.Sort.insertionSort
 rw [Go.Sort.insOuter, if_pos (by decide)]
 unfold Go.Sort.insInner
 rw [h1, Bool.and_false, if_neg (by decide), Go.Sort.insOuter, if_pos (by decide)]
 unfold Go.Sort.insInner
 rw [h2, Bool.and_false, if_neg (by decide), Go.Sort.insOuter, if_neg (by decide)]
def TgtAt (w : World) (g : Nat) : Prop := ∀ i : Fin 3, w.cell? ⟨g, (i : Nat) * 4, none⟩ = some (.string (sTgt i))
theorem TgtAt.below {w w' : World} {g : Nat} (h : TgtAt w g) (hb : Below w.heap.size w w') : TgtAt w' g := fun i => (hb.cell (p := ⟨g, _, none⟩) (lt_of_cell (h i))).trans (h i)
theorem tgt_of {w : World} {g b1 b2 b3 : Nat} (h : RulesAt w (some ⟨g, 0, none⟩) (stdRM b1 b2 b3)) : TgtAt w g := fun i => by
 obtain ⟨b, e, _, c0, _⟩ := h i i.2
 injection e with e
 injection e with e _ _
 subst e
 rw [c0]
 match i with
 | ⟨0, _⟩ => rfl
 | ⟨1, _⟩ => rfl
 | ⟨2, _⟩ => rfl
theorem dreads (w : World) (B g c P : Nat) (hB : w.cell? ⟨B, 0, none⟩ = some (.slice (some ⟨g, 0, none⟩) 3 c)) (hT : TgtAt w g) (hp1 : B ≠ P) (hp2 : g ≠ P) : CmpReads Tryz.prog 60 #[.pointer (some ⟨B, 0, none⟩)] encF sCmp P 0 3 w := fun m os dk hs x y => by
 have hc : ∀ (b i : Nat) (v : Value), b ≠ P → w.cell? ⟨b, i, none⟩ = some v → (sortWorld encF w P 0 m dk os).cell? ⟨b, i, none⟩ = some v := fun b i v hb hv => by
  have hl := lt_of_cell hv
  unfold sortWorld
  rw [Go.Sort.cell?_grow _ _ _ (by simpa using hl)]
  rw [← hv]
  exact Go.Sort.cell?_putRow_other _ _ _ _ _ _ (.inl hb)
 exact dcmp_any _ B g c x y _ _ (hc _ _ _ hp1 hB) (hc _ _ _ hp2 (hT x)) (hc _ _ _ hp2 (hT y)) x.2 y.2
def Three (w : World) (P : Nat) (a b c : Int) : Prop := w.heap[P]? = some (Obj.cells #[.int .i64 a, .int .i64 b, .int .i64 c] 3)
theorem Three.cells {w : World} {P : Nat} {a b c : Int} (h : Three w P a b c) : w.cell? ⟨P, 0, none⟩ = some (.int .i64 a) ∧ w.cell? ⟨P, 1, none⟩ = some (.int .i64 b) ∧ w.cell? ⟨P, 2, none⟩ = some (.int .i64 c) ∧ (∀ i, w.frozen? ⟨P, i, none⟩ = false) :=
 ⟨by rw [cell_of_row w P 0 _ _ _ h]; rfl, by rw [cell_of_row w P 1 _ _ _ h]; rfl, by rw [cell_of_row w P 2 _ _ _ h]; rfl, fun i => by simp [World.frozen?, show w.heap[P]? = _ from h]⟩
theorem Three.set0 {w : World} {P : Nat} {a b c : Int} (h : Three w P a b c) (x : Int) : Three (w.setCell ⟨P, 0, none⟩ (.int .i64 x)) P x b c := by unfold Three at *; simp [World.setCell, Array.getElem?_modify, h]
theorem Three.set1 {w : World} {P : Nat} {a b c : Int} (h : Three w P a b c) (x : Int) : Three (w.setCell ⟨P, 1, none⟩ (.int .i64 x)) P a x c := by unfold Three at *; simp [World.setCell, Array.getElem?_modify, h]
theorem Three.set2 {w : World} {P : Nat} {a b c : Int} (h : Three w P a b c) (x : Int) : Three (w.setCell ⟨P, 2, none⟩ (.int .i64 x)) P a b x := by unfold Three at *; simp [World.setCell, Array.getElem?_modify, h]
theorem Three.below {w w' : World} {P : Nat} {a b c : Int} (h : Three w P a b c) (hb : Below w.heap.size w w') : Three w' P a b c := (hb.block P (heap_lt h)).trans h
theorem Three.holds {w : World} {P : Nat} (h : Three w P 0 1 2) : Go.Sort.Holds encF w P 0 #[0, 1, 2] := fun j hj => by
 obtain ⟨c0, c1, c2, hf⟩ := h.cells
 have h3 : j = 0 ∨ j = 1 ∨ j = 2 := by simp at hj; omega
 rcases h3 with rfl | rfl | rfl
 ·exact ⟨c0, hf _⟩
 ·exact ⟨c1, hf _⟩
 ·exact ⟨c2, hf _⟩
theorem make3 (W : World) : (Instr.makeSlice 42 (.int .i64 3) (.int .i64 3)).run Tryz.prog W = .ok (.slice (some ⟨W.heap.size, 0, none⟩) 3 3) (W.alloc (.cells #[.int .i64 0, .int .i64 0, .int .i64 0] 3)) := by kernel_rfl
set_option maxHeartbeats 3200000 in
set_option maxRecDepth 100000 in
theorem dby_any (w : World) (g c b1 b2 b3 : Nat) (hR : RulesAt w (some ⟨g, 0, none⟩) (stdRM b1 b2 b3)) :
  Calls Tryz.prog 28 #[.slice (some ⟨g, 0, none⟩) 3 c] w fun e w' => e = .returned (.slice (some ⟨w.heap.size + 1, 0, none⟩) 3 3) ∧ Three w' (w.heap.size + 1) 0 1 2 ∧ Below w.heap.size w w' := by
 have HT := Lib.hid (tgt_of hR)
 have HG : Hid (g < w.heap.size) := Lib.hid (by
  obtain ⟨b, e, hl, _⟩ := hR 0 (Nat.zero_lt_succ _)
  injection e with e
  injection e with e _ _
  subst e
  exact hl)
 have HS : Hid (∀ W, Below w.heap.size w W → w.heap.size + 1 < W.heap.size → W.cell? ⟨w.heap.size, 0, none⟩ = some (.slice (some ⟨g, 0, none⟩) 3 c) → Three W (w.heap.size + 1) 0 1 2 →
   Calls Tryz.prog 59 #[.slice (some ⟨w.heap.size + 1, 0, none⟩) 3 3, .func (.func 60) #[] #[.pointer (some ⟨w.heap.size, 0, none⟩)]] W fun e w' => e = .returned (.tuple #[]) ∧ ∃ n, w' = W.drewN n) := Lib.hid fun W hb hz hB h3 => by
  have eg : ∀ args w, (callFunc 60 args).run Tryz.prog w = .ok (.enter 60 args) w := enters_of Tryz.func60 (by kernel_rfl) rfl
  have hlen : ∀ (n : Nat) (W : World), n ≤ 12 → Calls Tryz.prog (Tryz.laysSlF6_f59_ren.f 15) #[.int .u64 n] W fun e w' => (∃ l : Int, e = .returned (.int .i64 l)) ∧ w' = W := fun n W hn => by
   have h := Any.bits_Len (SlLaysF0.n15.bits (P := Tryz.prog) (ρ := Tryz.laysSlF6_f59_ren) { Tryz.laysSlF6_f59 with }) (n : Int) W (by omega) (by omega)
   exact h.mono fun _ _ ⟨he, hw⟩ => ⟨⟨_, he⟩, hw⟩
  have hcon := Any.slices_SortFunc_small Tryz.laysSlF6_f59 encF (fun _ => rfl) sCmp 60 #[.pointer (some ⟨w.heap.size, 0, none⟩)] (w.heap.size + 1) 0 3 #[0, 1, 2] W eg (dreads W w.heap.size g c (w.heap.size + 1) hB (HT.out.below hb) (by omega) (by have := HG.out; omega)) h3.holds (by decide) hlen
  change Calls Tryz.prog 59 _ _ _ at hcon
  refine hcon.mono fun e w' ⟨he, n, hw⟩ => ⟨he, n, ?_⟩
  rw [hw]
  show (Go.Sort.putRow encF W _ 0 (Go.Sort.insertionSort (ltOf sCmp) #[0, 1, 2] 0 3)).drewN n = _
  rw [sorted3, Go.Sort.putRow_self _ _ _ _ _ h3.holds]
 clear hR
 have HW : Hid (∀ W, (w.alloc (Obj.cells #[.slice (some ⟨g, 0, none⟩) 3 c] 23)).alloc (Obj.cells #[.int .i64 0, .int .i64 0, .int .i64 0] 3) = W → Below w.heap.size w W ∧ W.heap.size = w.heap.size + 2 ∧ W.cell? ⟨w.heap.size, 0, none⟩ = some (.slice (some ⟨g, 0, none⟩) 3 c) ∧ Three W (w.heap.size + 1) 0 0 0) := Lib.hid fun W hW => by
  obtain ⟨h1, h2, h3, h4⟩ := two_new w (Obj.cells #[.slice (some ⟨g, 0, none⟩) 3 c] 23) (Obj.cells #[.int .i64 0, .int .i64 0, .int .i64 0] 3)
  rw [hW] at h1 h2 h3 h4
  exact ⟨h1, h2, by rw [cell_of_row W _ 0 _ _ _ h3]; rfl, h4⟩
 have hmk := make3
 go_enter Tryz.func28, Tryz.ntmps28
 go_wp2
 obtain ⟨W2, hW2⟩ : ∃ W2, (w.alloc (Obj.cells #[.slice (some ⟨g, 0, none⟩) 3 c] 23)).alloc (Obj.cells #[.int .i64 0, .int .i64 0, .int .i64 0] 3) = W2 := ⟨_, rfl⟩
 have H2 := Lib.hid (HW.out W2 hW2)
 rw [hW2]
 clear hW2 HW hmk
 go_loopw [4, 10] (fun _ i wr => ∃ t : Nat, i = .int .i64 t ∧ t ≤ 3 ∧ Hid (Below w.heap.size w wr ∧ w.heap.size + 1 < wr.heap.size ∧ wr.cell? ⟨w.heap.size, 0, none⟩ = some (.slice (some ⟨g, 0, none⟩) 3 c) ∧ Three wr (w.heap.size + 1) 0 (if 1 < t then 1 else 0) (if 2 < t then 2 else 0))) (fun _ i _ => 3 - (intOf i).toNat)
 case atStart => exact ⟨0, rfl, by omega, Lib.hid ⟨H2.out.1, by have := H2.out.2.1; omega, H2.out.2.2.1, H2.out.2.2.2⟩⟩
 case round =>
  obtain ⟨t, rfl, ht, HK⟩ := hrel
  have h4 : t = 0 ∨ t = 1 ∨ t = 2 ∨ t = 3 := by omega
  rcases h4 with rfl | rfl | rfl | rfl
  ·obtain ⟨k0, k1, k2, kf⟩ := HK.out.2.2.2.cells
   have HN : Hid (Below w.heap.size w (wr.setCell ⟨w.heap.size + 1, 0, none⟩ (.int .i64 0)) ∧ w.heap.size + 1 < (wr.setCell ⟨w.heap.size + 1, 0, none⟩ (.int .i64 0)).heap.size ∧ (wr.setCell ⟨w.heap.size + 1, 0, none⟩ (.int .i64 0)).cell? ⟨w.heap.size, 0, none⟩ = some (.slice (some ⟨g, 0, none⟩) 3 c) ∧ Three (wr.setCell ⟨w.heap.size + 1, 0, none⟩ (.int .i64 0)) (w.heap.size + 1) 0 (if 1 < 1 then 1 else 0) (if 2 < 1 then 2 else 0)) := Lib.hid
    ⟨HK.out.1.setCell (p := ⟨w.heap.size + 1, 0, none⟩) (by show w.heap.size ≤ w.heap.size + 1; omega) _, by simpa using HK.out.2.1, (World.cell?_setCell_other _ _ _ _ (fun e => by injection e with e; omega)).trans HK.out.2.2.1, HK.out.2.2.2.set0 0⟩
   go_wp2
   exact ⟨⟨1, rfl, by omega, HN⟩, by simp [intOf]⟩
  ·obtain ⟨k0, k1, k2, kf⟩ := HK.out.2.2.2.cells
   have HN : Hid (Below w.heap.size w (wr.setCell ⟨w.heap.size + 1, 1, none⟩ (.int .i64 1)) ∧ w.heap.size + 1 < (wr.setCell ⟨w.heap.size + 1, 1, none⟩ (.int .i64 1)).heap.size ∧ (wr.setCell ⟨w.heap.size + 1, 1, none⟩ (.int .i64 1)).cell? ⟨w.heap.size, 0, none⟩ = some (.slice (some ⟨g, 0, none⟩) 3 c) ∧ Three (wr.setCell ⟨w.heap.size + 1, 1, none⟩ (.int .i64 1)) (w.heap.size + 1) 0 (if 1 < 2 then 1 else 0) (if 2 < 2 then 2 else 0)) := Lib.hid
    ⟨HK.out.1.setCell (p := ⟨w.heap.size + 1, 1, none⟩) (by show w.heap.size ≤ w.heap.size + 1; omega) _, by simpa using HK.out.2.1, (World.cell?_setCell_other _ _ _ _ (fun e => by injection e with e; omega)).trans HK.out.2.2.1, HK.out.2.2.2.set1 1⟩
   go_wp2
   exact ⟨⟨2, rfl, by omega, HN⟩, by simp [intOf]⟩
  ·obtain ⟨k0, k1, k2, kf⟩ := HK.out.2.2.2.cells
   have HN : Hid (Below w.heap.size w (wr.setCell ⟨w.heap.size + 1, 2, none⟩ (.int .i64 2)) ∧ w.heap.size + 1 < (wr.setCell ⟨w.heap.size + 1, 2, none⟩ (.int .i64 2)).heap.size ∧ (wr.setCell ⟨w.heap.size + 1, 2, none⟩ (.int .i64 2)).cell? ⟨w.heap.size, 0, none⟩ = some (.slice (some ⟨g, 0, none⟩) 3 c) ∧ Three (wr.setCell ⟨w.heap.size + 1, 2, none⟩ (.int .i64 2)) (w.heap.size + 1) 0 (if 1 < 3 then 1 else 0) (if 2 < 3 then 2 else 0)) := Lib.hid
    ⟨HK.out.1.setCell (p := ⟨w.heap.size + 1, 2, none⟩) (by show w.heap.size ≤ w.heap.size + 1; omega) _, by simpa using HK.out.2.1, (World.cell?_setCell_other _ _ _ _ (fun e => by injection e with e; omega)).trans HK.out.2.2.1, HK.out.2.2.2.set2 2⟩
   go_wp2
   exact ⟨⟨3, rfl, by omega, HN⟩, by simp [intOf]⟩
  ·have hs := HS.out wr HK.out.1 HK.out.2.1 HK.out.2.2.1 HK.out.2.2.2
   clear HS
   go_wp2_with fail
   refine hs.mono ?_
   rintro e w3 ⟨rfl, n, rfl⟩
   have HE : Hid (Three (wr.drewN n) (w.heap.size + 1) 0 1 2 ∧ Below w.heap.size w (wr.drewN n)) := Lib.hid ⟨HK.out.2.2.2.below (below_drewN wr n), HK.out.1.trans ((below_drewN wr n).mono HK.out.1.size)⟩
   go_wp2
   go_ret
   exact ⟨rfl, HE.out⟩
theorem but_putRow {α : Type} [Inhabited α] (enc : α → Value) (w : World) (q P off : Nat) (d : Array α) : But P w (Go.Sort.putRow enc (Go.Sort.ahead w q) P off d) := by
 refine ⟨rfl, rfl, rfl, by simp, fun k hk hne => ?_⟩
 simp only [Go.Sort.putRow, Go.Sort.mapBlock, Go.Sort.heap_ahead]
 rw [Array.getElem?_modify, if_neg (fun e => hne e.symm)]
theorem tgt_ne01 : ((sTgt 0).toList == (sTgt 1).toList) = false := by kernel_rfl
theorem tgt_ne12 : ((sTgt 1).toList == (sTgt 2).toList) = false := by kernel_rfl
set_option maxHeartbeats 1600000 in
set_option maxRecDepth 100000 in
theorem dtwice_any (w : World) (g c P : Nat) (hT : TgtAt w g) (hP : Three w P 0 1 2) :
  Calls Tryz.prog 29 #[.slice (some ⟨g, 0, none⟩) 3 c, .slice (some ⟨P, 0, none⟩) 3 3] w fun e w' => e = .returned (.bool false) ∧ Below w.heap.size w w' := by
 have HT := Lib.hid hT
 have HP := Lib.hid hP
 have n1 := tgt_ne01
 have n2 := tgt_ne12
 clear hT hP
 obtain ⟨s0, hs0⟩ : ∃ s, sTgt 0 = s := ⟨_, rfl⟩
 obtain ⟨s1, hs1⟩ : ∃ s, sTgt 1 = s := ⟨_, rfl⟩
 obtain ⟨s2, hs2⟩ : ∃ s, sTgt 2 = s := ⟨_, rfl⟩
 have HC : Hid (∀ W, Below w.heap.size w W → W.cell? ⟨P, 0, none⟩ = some (.int .i64 0) ∧ W.cell? ⟨P, 1, none⟩ = some (.int .i64 1) ∧ W.cell? ⟨P, 2, none⟩ = some (.int .i64 2) ∧ W.cell? ⟨g, 0, none⟩ = some (.string s0) ∧ W.cell? ⟨g, 4, none⟩ = some (.string s1) ∧ W.cell? ⟨g, 8, none⟩ = some (.string s2)) := Lib.hid fun W hb => by
  obtain ⟨k0, k1, k2, _⟩ := (HP.out.below hb).cells
  have h := HT.out.below hb
  exact ⟨k0, k1, k2, by rw [← hs0]; exact h 0, by rw [← hs1]; exact h 1, by rw [← hs2]; exact h 2⟩
 rw [hs0, hs1] at n1
 rw [hs1, hs2] at n2
 clear hs0 hs1 hs2 HT HP
 go_enter Tryz.func29, Tryz.ntmps29
 go_wp2
 go_loopw [5] (fun i wr => ∃ t : Nat, i = .int .i64 t ∧ 1 ≤ t ∧ t ≤ 3 ∧ Hid (Below w.heap.size w wr)) (fun i _ => 3 - (intOf i).toNat)
 case atStart => exact ⟨1, rfl, by omega, by omega, Lib.hid (Below.refl _ _)⟩
 case round =>
  obtain ⟨t, rfl, h1, h2, HK⟩ := hrel
  have h3 : t = 1 ∨ t = 2 ∨ t = 3 := by omega
  obtain ⟨k0, k1, k2, t0, t1, t2⟩ := HC.out wr HK.out
  rcases h3 with rfl | rfl | rfl
  ·have HN : Hid (∀ q, Below w.heap.size w (wr.drewN q)) := Lib.hid fun q => HK.out.trans ((below_drewN wr q).mono HK.out.size)
   go_wp2
   go_region
   go_wp2
   go_roundw
   case rel => exact ⟨2, rfl, by omega, by omega, Lib.hid (HN.out _)⟩
   case measure => simp [intOf]
  ·have HN : Hid (∀ q, Below w.heap.size w (wr.drewN q)) := Lib.hid fun q => HK.out.trans ((below_drewN wr q).mono HK.out.size)
   go_wp2
   go_region
   go_wp2
   go_roundw
   case rel => exact ⟨3, rfl, by omega, by omega, Lib.hid (HN.out _)⟩
   case measure => simp [intOf]
  ·go_wp2
   go_ret
   exact ⟨rfl, HK.out⟩
end Go.Proofs.YtlcgfdijohgnpaaGreatDoor

namespace Go.Proofs.YtlcgfdijohgnpaaGreatDoor
open Go.ChangeShapes Go.WideShapes Go.ChangeAt Go.RowKit

def LeftAt (w : World) (P : Nat) (ls : List (Fin 3)) : Prop := ∀ k (h : k < ls.length), w.cell? ⟨P, k, none⟩ = some (encF ls[k])
theorem LeftAt.below {w w' : World} {P : Nat} {ls : List (Fin 3)} (h : LeftAt w P ls) (hb : Below w.heap.size w w') : LeftAt w' P ls := fun k hk => (hb.cell (p := ⟨P, k, none⟩) (lt_of_cell (h k hk))).trans (h k hk)
def waitsB (needs : List ByteArray) (ls : List (Fin 3)) : Bool := ls.any fun i => Lib.containsS needs (sTgt i)
set_option maxHeartbeats 1600000 in
set_option maxRecDepth 100000 in
theorem dwaits_any (w : World) (g c P d n : Nat) (m : RuleM) (ls : List (Fin 3)) (hT : TgtAt w g) (hL : LeftAt w P ls) (hn : ls.length = n) (hn3 : n ≤ 3) (hm : TxAt w m.a m.x.needs) (h1 : 1 ≤ m.x.needs.length) (h8 : m.x.needs.length ≤ 8) :
    Calls Tryz.prog 63 #[rAgg m, .slice (some ⟨g, 0, none⟩) 3 c, .slice (some ⟨P, 0, none⟩) n d] w fun e w' => e = .returned (.bool (waitsB m.x.needs ls)) ∧ Below w.heap.size w w' := by
  have HT := Lib.hid hT
  have HL := Lib.hid hL
  obtain ⟨b, off, hma, hbl, hc0⟩ := hm 0 (by omega)
  have HM : Hid (∀ W, Below w.heap.size w W → ∀ s, Calls Tryz.prog 86 #[.slice m.a m.x.needs.length m.c, .string s] W fun e w' => e = .returned (.bool (Lib.containsS m.x.needs s)) ∧ W = w') := Lib.hid fun W hb s => by
    have h := Any.slices_Contains_string Tryz.lays110 b off m.x.needs.length m.c m.x.needs s W (Nat.le_refl _) (by omega) (fun j hj => by
      obtain ⟨b2, off2, e2, hl2, hcj⟩ := (hm.below hb) j hj
      rw [hma] at e2
      injection e2 with e2
      injection e2 with e2 e3 _
      subst e2 e3
      rw [hcj]; simp [List.getD, List.getElem?_eq_getElem hj])
    rw [← hma, List.take_length] at h
    exact h.mono fun _ _ ⟨h1, h2⟩ => ⟨h1, h2.symm⟩
  have HB : Hid (∀ o, Below w.heap.size w (w.alloc o)) := Lib.hid fun o => below_one w o
  have HX : Hid (∀ t, Box4 (w.alloc (Obj.cells #[.string m.x.target, .slice m.a m.x.needs.length m.c, .int .i64 m.x.op, .int .i64 m.x.add] t)) w.heap.size (.string m.x.target) (.slice m.a m.x.needs.length m.c) (.int .i64 m.x.op) (.int .i64 m.x.add)) := Lib.hid fun t => box4_new w _ _ _ _ t
  have HE : Hid (waitsB m.x.needs ls = waitsB m.x.needs ls) := Lib.hid rfl
  obtain ⟨R, hR⟩ : ∃ R, waitsB m.x.needs ls = R := ⟨_, rfl⟩
  have HR := Lib.hid hR
  rw [hR]
  have HLN := Lib.hid hn
  unfold rAgg
  clear hT hL hm hc0 hR HE hma h1 h8 hn
  obtain ⟨⟨tg, ns, op, ad⟩, a, mc⟩ := m
  simp only at HM HX HR ⊢
  generalize ns.length = nl at HM HX ⊢
  go_enter Tryz.func63, Tryz.ntmps63
  go_wp2
  go_loopw [8, 11] (fun _ i wr => ∃ t : Nat, i = .int .i64 t ∧ t ≤ n ∧ Hid (Below w.heap.size w wr ∧ wr.cell? ⟨w.heap.size, 1, none⟩ = some (.slice a nl mc) ∧ R = waitsB ns (ls.drop t))) (fun _ i _ => n - (intOf i).toNat)
  case atStart => exact ⟨0, rfl, by omega, Lib.hid ⟨HB.out _, (HX.out _).2, by rw [List.drop_zero]; exact HR.out.symm⟩⟩
  case round =>
    obtain ⟨t, rfl, ht, HK⟩ := hrel
    by_cases hlt : t < n
    · have hk : t < ls.length := by rw [HLN.out]; exact hlt
      have q1 : (0 : Int) ≤ t := by omega
      have q2 : (t : Int) < n := by omega
      have hl := (HL.out.below HK.out.1) t hk
      have ht2 := (HT.out.below HK.out.1) ls[t]
      have hdr := List.drop_eq_getElem_cons hk
      have hR2 := HK.out.2.2
      rw [hdr] at hR2
      generalize ls[t] = x at hl ht2 hR2
      have hx0 : (0 : Int) ≤ ((x : Nat) : Int) := by omega
      have hx3 : ((x : Nat) : Int) < 3 := by have := x.2; omega
      unfold encF at hl
      obtain ⟨xi, hxi⟩ : ∃ xi : Nat, (x : Nat) = xi := ⟨_, rfl⟩
      rw [hxi] at hl ht2 hx0 hx3
      obtain ⟨s, hs⟩ : ∃ s, sTgt x = s := ⟨_, rfl⟩
      have hR3 : R = (Lib.containsS ns s || waitsB ns (ls.drop (t + 1))) := by rw [hR2, ← hs]; rfl
      rw [hs] at ht2
      have k1 := HK.out.2.1
      have HCC := Lib.hid fun W hb => HM.out W hb s
      have HBR : Hid (∀ q, Below w.heap.size w (wr.drewN q)) := Lib.hid fun q => HK.out.1.trans ((below_drewN wr q).mono HK.out.1.size)
      have HBD : Hid (Below w.heap.size w wr.drew) := HBR.out 1
      cases hv : Lib.containsS ns s with
      | true =>
        rw [hv] at HCC hR3
        have HE : Hid (R = true) := Lib.hid hR3
        clear hR3 hR2 hv hs hxi hdr hk HM
        go_wp2
        go_region_held3 (fun W => W.cell? ⟨w.heap.size, 1, none⟩ = some (.slice a nl mc) ∧ W.cell? ⟨g, xi * 4, none⟩ = some (.string s)) (exact ⟨k1, ht2⟩) (first
          | (go_at_call 86; (with_reducible refine (HCC.out _ HBD.out).mono ?_); rintro e w2 ⟨rfl, rfl⟩; dsimp only)
          | fail)
        go_wp2
        go_ret
        exact ⟨by rw [HE.out]; rfl, HBR.out 1⟩
      | false =>
        rw [hv] at HCC hR3
        have HE : Hid (R = waitsB ns (ls.drop (t + 1))) := Lib.hid hR3
        clear hR3 hR2 hv hs hxi hdr hk HM
        go_wp2
        go_region_held3 (fun W => W.cell? ⟨w.heap.size, 1, none⟩ = some (.slice a nl mc) ∧ W.cell? ⟨g, xi * 4, none⟩ = some (.string s)) (exact ⟨k1, ht2⟩) (first
          | (go_at_call 86; (with_reducible refine (HCC.out _ HBD.out).mono ?_); rintro e w2 ⟨rfl, rfl⟩; dsimp only)
          | fail)
        go_wp2
        go_roundw
        case rel => exact ⟨t + 1, by go_num, by omega, Lib.hid ⟨HBR.out 1, k1, HE.out⟩⟩
        case measure => simp [intOf]; omega
    · have q2 : ¬ (t : Int) < n := by omega
      have HE : Hid (R = false) := Lib.hid (by rw [HK.out.2.2, List.drop_eq_nil_of_le (by rw [HLN.out]; omega)]; rfl)
      go_wp2
      go_ret
      exact ⟨by rw [HE.out]; rfl, HK.out.1⟩
def sNeed : Fin 3 → List ByteArray
  | ⟨0, _⟩ => [⟨#[98, 111, 111, 116, 46, 119, 111, 114, 107, 101, 114, 115]⟩]
  | ⟨1, _⟩ => [⟨#[98, 111, 111, 116, 46, 115, 101, 114, 118, 105, 99, 101, 115]⟩]
  | ⟨_, _⟩ => [⟨#[115, 116, 111, 114, 101, 46, 99, 97, 99, 104, 101]⟩]
def freeB (ls : List (Fin 3)) (x : Fin 3) : Bool := !waitsB (sNeed x) ls
set_option maxHeartbeats 1600000 in
set_option maxRecDepth 100000 in
theorem dfree_any (w : World) (L R g c P d n b1 b2 b3 : Nat) (ls : List (Fin 3)) (hL0 : w.cell? ⟨L, 0, none⟩ = some (.slice (some ⟨g, 0, none⟩) 3 c)) (hR0 : w.cell? ⟨R, 0, none⟩ = some (.slice (some ⟨P, 0, none⟩) n d)) (hR : RulesAt w (some ⟨g, 0, none⟩) (stdRM b1 b2 b3)) (hL : LeftAt w P ls) (hn : ls.length = n) (hn3 : n ≤ 3) (x : Fin 3) :
    Calls Tryz.prog 62 #[encF x, .pointer (some ⟨L, 0, none⟩), .pointer (some ⟨R, 0, none⟩)] w fun e w' => e = .returned (.bool (freeB ls x)) ∧ Below w.heap.size w w' := by
  obtain ⟨m, hm⟩ : ∃ m, (stdRM b1 b2 b3)[(x : Nat)]'x.2 = m := ⟨_, rfl⟩
  have hnd : m.x.needs = sNeed x := by
    rw [← hm]
    match x with
    | ⟨0, _⟩ => rfl
    | ⟨1, _⟩ => rfl
    | ⟨2, _⟩ => rfl
  have hl1 : m.x.needs.length = 1 := by
    rw [hnd]
    match x with
    | ⟨0, _⟩ => rfl
    | ⟨1, _⟩ => rfl
    | ⟨2, _⟩ => rfl
  obtain ⟨b, e, hbl, c0, c1, c2, c3, htx⟩ := hR x x.2
  injection e with e
  injection e with e _ _
  subst e
  rw [hm] at c0 c1 c2 c3 htx
  have HW : Hid (∀ W, Below w.heap.size w W → Calls Tryz.prog 63 #[rAgg m, .slice (some ⟨g, 0, none⟩) 3 c, .slice (some ⟨P, 0, none⟩) n d] W fun e w' => e = .returned (.bool (waitsB (sNeed x) ls)) ∧ Below W.heap.size W w') := Lib.hid fun W hb => by
    have := dwaits_any W g c P d n m ls ((tgt_of hR).below hb) (hL.below hb) hn hn3 (htx.below hb) (by omega) (by omega)
    rw [hnd] at this
    exact this
  have HBD : Hid (Below w.heap.size w w.drew) := Lib.hid (below_drewN w 1)
  have hx0 : (0 : Int) ≤ ((x : Nat) : Int) := by omega
  have hx3 : ((x : Nat) : Int) < 3 := by have := x.2; omega
  unfold freeB
  generalize waitsB (sNeed x) ls = V at HW ⊢
  unfold rAgg at HW
  clear hm hnd hl1 hR hL hn htx
  obtain ⟨⟨tg, ns, op, ad⟩, a, mc⟩ := m
  simp only at c0 c1 c2 c3 HW
  generalize ns.length = nl at c1 HW
  unfold encF
  generalize (x : Nat) = xi at *
  go_enter Tryz.func62, Tryz.ntmps62
  go_wp2
  go_region_held3 (fun W => W.cell? ⟨L, 0, none⟩ = some (.slice (some ⟨g, 0, none⟩) 3 c) ∧ W.cell? ⟨R, 0, none⟩ = some (.slice (some ⟨P, 0, none⟩) n d) ∧ W.cell? ⟨g, xi * 4, none⟩ = some (.string tg) ∧ W.cell? ⟨g, xi * 4 + 1, none⟩ = some (.slice a nl mc) ∧ W.cell? ⟨g, xi * 4 + 2, none⟩ = some (.int .i64 op) ∧ W.cell? ⟨g, xi * 4 + 3, none⟩ = some (.int .i64 ad)) (first | exact ⟨hL0, hR0, c0, c1, c2, c3⟩ | exact HF2.out) (first
    | (go_at_call 63; (with_reducible refine (HW.out _ HBD.out).mono ?_); rintro e w2 ⟨rfl, hb2⟩
       have HE := Lib.hid (HBD.out.trans (hb2.mono HBD.out.size))
       have ck : ∀ {b o : Nat} {v : Value}, w.cell? ⟨b, o, none⟩ = some v → w2.cell? ⟨b, o, none⟩ = some v := fun {b o v} h => (HE.out.cell (p := ⟨b, o, none⟩) (lt_of_cell h)).trans h
       have HF2 := Lib.hid (And.intro (ck hL0) (And.intro (ck hR0) (And.intro (ck c0) (And.intro (ck c1) (And.intro (ck c2) (ck c3))))))
       clear ck hb2; dsimp only)
    | fail)
  go_wp2
  go_ret
  exact ⟨rfl, HE.out⟩
set_option maxHeartbeats 1600000 in
set_option maxRecDepth 100000 in
theorem dindex_any (w : World) (L R P d n : Nat) (ls : List (Fin 3)) (p : Fin 3 → Bool) (hp : ∀ W, Below w.heap.size w W → ∀ x, Calls Tryz.prog 62 #[encF x, .pointer (some ⟨L, 0, none⟩), .pointer (some ⟨R, 0, none⟩)] W fun e w' => e = .returned (.bool (p x)) ∧ Below W.heap.size W w')
    (hL : LeftAt w P ls) (hn : ls.length = n) (hn3 : n ≤ 3) (j : Nat) (hj : j < n) (h1 : p (ls[j]'(by omega)) = true) (h0 : ∀ i (h : i < j), p (ls[i]'(by omega)) = false) :
    Calls Tryz.prog 61 #[.slice (some ⟨P, 0, none⟩) n d, .func (.func 62) #[] #[.pointer (some ⟨L, 0, none⟩), .pointer (some ⟨R, 0, none⟩)]] w fun e w' => e = .returned (.int .i64 j) ∧ Below w.heap.size w w' := by
  have HP := Lib.hid hp
  have HL := Lib.hid hL
  have HN := Lib.hid hn
  have H01 : Hid (∀ i (h : i < ls.length), i ≤ j → p ls[i] = decide (i = j)) := Lib.hid fun i h hi => by
    by_cases e : i = j
    · subst e; rw [h1]; simp
    · rw [h0 i (by omega)]; simp [e]
  clear hp hL hn h1 h0
  go_enter Tryz.func61, Tryz.ntmps61
  go_wp2
  go_loopw [5, 8] (fun _ i wr => ∃ t : Nat, i = .int .i64 t ∧ t ≤ j ∧ Hid (Below w.heap.size w wr)) (fun _ i _ => n - (intOf i).toNat)
  case atStart => exact ⟨0, rfl, by omega, Lib.hid (Below.refl _ _)⟩
  case round =>
    obtain ⟨t, rfl, ht, HK⟩ := hrel
    have hk : t < ls.length := by rw [HN.out]; omega
    have q1 : (0 : Int) ≤ t := by omega
    have q2 : (t : Int) < n := by omega
    have hl := (HL.out.below HK.out) t hk
    have hv := H01.out t hk ht
    generalize ls[t] = x at hl hv
    have HC := Lib.hid (HP.out wr HK.out x)
    unfold encF at hl HC
    rw [hv] at HC
    clear hv
    by_cases htj : t = j
    · subst htj
      rw [decide_eq_true rfl] at HC
      go_wp2_with fail
      refine HC.out.mono ?_
      rintro e w2 ⟨rfl, hb2⟩
      have HE := Lib.hid (HK.out.trans (hb2.mono HK.out.size))
      clear hb2
      go_wp2
      go_ret
      exact ⟨rfl, HE.out⟩
    · rw [decide_eq_false htj] at HC
      go_wp2_with fail
      refine HC.out.mono ?_
      rintro e w2 ⟨rfl, hb2⟩
      have HE := Lib.hid (HK.out.trans (hb2.mono HK.out.size))
      clear hb2
      go_wp2
      go_roundw
      case rel => exact ⟨t + 1, by go_num, by omega, HE⟩
      case measure => simp [intOf]; omega
theorem infoIn : (Tryz.prog.info? 3).map (fun i => (i.zero, i.size, i.bytes)) = some (some (.int .i64 0), 1, 8) := by kernel_rfl
theorem appendIn {ops : Array Oper} {rest : List Oper} {o : Oper} {a : Act} {Q : Exit → Act → World → Prop} (hgd : o.guard = none) (s x : Operand)
    (ho : o.op = .call { callee := .builtin .append, args := #[s, x], argTypes := #[42, 42] }) {B n : Nat} {w : World} {v : Value} {vs : List Value} (hown : w.ownsRow B 3 1 v n vs) (hB : B ≤ w.heap.size) (hn : n ≤ 10000000) (hs : a.eval s = v)
    {y : Int} {c g : Nat} (hx : a.eval x = .slice (some ⟨g, 0, none⟩) 1 c) (hg : g = w.heap.size)
    (h : ∀ k cap w', w'.ownsRow B 3 1 (.slice (some ⟨k, 0, none⟩) (n + 1) cap) (n + 1) (vs ++ [.int .i64 y]) → (w.alloc (Obj.cells #[.int .i64 y] 3)).grownBy w' v.ownBlock → wpList Tryz.prog ops Q rest (a.put o.dst (.slice (some ⟨k, 0, none⟩) (n + 1) cap)) w') :
    wpList Tryz.prog ops Q (o :: rest) a (w.alloc (Obj.cells #[.int .i64 y] 3)) := by
  subst hg
  obtain ⟨i0, hi, hz0, hz1, hz2⟩ := info_parts infoIn
  refine wpList_append_lies _ hgd s x _ ho B 3 i0 _ 1 8 Tryz.underlying42 hi hz0 hz1 hz2 rfl (by decide) v n vs hs (hown.alloc _) ⟨w.heap.size, 0, none⟩ 1 c [.int .i64 y] hx rfl (World.news_of_block (heap_alloc_new w _)) ?_ (by decide) (by unfold maxLen; omega) (by omega) (Nat.le_trans hB (below_one w _).size) _ rfl ?_
  · intro u hu
    rw [List.mem_singleton.1 hu]; rfl
  · intro k cap w1 h1 h2 _ _
    exact h k cap w1 h1 h2
theorem zeroInF (w : World) : (zeroValue 3).run Tryz.prog w = .ok (encF 0) w := by kernel_rfl
theorem ddelete_any (w : World) (P i : Nat) (ls : List (Fin 3)) (hH : Go.Sort.Holds encF w P 0 ls.toArray) (h3 : ls.length ≤ 3) (hi : i < ls.length) :
    Calls Tryz.prog 64 #[.slice (some ⟨P, 0, none⟩) ls.length 3, .int .i64 i, .int .i64 ((i : Int) + 1)] w fun e w' => e = .returned (.slice (some ⟨P, 0, none⟩) (ls.length - 1) 3) ∧ But P w w' ∧ Go.Sort.Holds encF w' P 0 (ls.eraseIdx i).toArray := by
  obtain ⟨i0, hi0, _, hz1, _⟩ := info_parts infoIn
  have h := AnyE.slices_Delete Tryz.laysSlE45_f64 encF (fun _ => rfl) (0 : Fin 3) zeroInF i0 hi0 hz1 P 0 3 i (i + 1) ls.toArray w hH (by simpa using h3) (by decide) (by omega) (by rw [List.size_toArray]; omega)
  change Calls Tryz.prog 64 _ _ _ at h
  have e1 : ((i + 1 : Nat) : Int) = (i : Int) + 1 := by omega
  rw [e1] at h
  have e2 : ls.toArray.size = ls.length := by simp
  rw [e2, show i + 1 - i = 1 by omega] at h
  refine h.mono fun e w' ⟨he, q, hw⟩ => ⟨he, ?_, ?_⟩
  · rw [hw]; exact but_putRow _ _ _ _ _ _
  · have hh : Go.Sort.Holds encF w' P 0 (ls.toArray.toList.take i ++ ls.toArray.toList.drop (i + 1) ++ List.replicate 1 (0 : Fin 3)).toArray := by
      rw [hw]
      refine Go.Sort.holds_putRow encF _ P 0 ls.toArray _ (Go.Sort.holds_ahead encF w q P 0 _ hH) ?_
      simp
      omega
    have e3 : ls.toArray.toList.take i ++ ls.toArray.toList.drop (i + 1) = ls.eraseIdx i := by rw [List.eraseIdx_eq_take_drop_succ]
    rw [e3] at hh
    intro k hk
    have hk2 : k < (ls.eraseIdx i).length := by simpa using hk
    have hk3 : k < (ls.eraseIdx i ++ List.replicate 1 (0 : Fin 3)).toArray.size := by simp at hk2 ⊢; omega
    obtain ⟨a, b⟩ := hh k hk3
    refine ⟨?_, b⟩
    rw [a, getElem!_pos _ k hk3, getElem!_pos _ k hk]
    have e4 : (ls.eraseIdx i ++ List.replicate 1 (0 : Fin 3)).toArray[k] = (ls.eraseIdx i).toArray[k] := by
      rw [List.getElem_toArray, List.getElem_toArray, List.getElem_append_left hk2]
    rw [e4]
end Go.Proofs.YtlcgfdijohgnpaaGreatDoor

namespace Go.Proofs.YtlcgfdijohgnpaaGreatDoor
open Go.ChangeShapes Go.WideShapes Go.ChangeAt Go.RowKit

theorem RulesAt.butP {w w' : World} {g P : Nat} {rs : List RuleM} (h : RulesAt w (some ⟨g, 0, none⟩) rs) (hP : ∀ i s, w.cell? ⟨P, i, none⟩ ≠ some (.string s)) (hb : But P w w') : RulesAt w' (some ⟨g, 0, none⟩) rs := fun i hi => by
 obtain ⟨b, e, hl, c0, c1, c2, c3, ht⟩ := h i hi
 have hne : b ≠ P := fun e2 => hP _ _ (e2 ▸ c0)
 refine ⟨b, e, Nat.lt_of_lt_of_le hl hb.2.2.2.1, (hb.cell (p := ⟨b, _, none⟩) hl hne).trans c0, (hb.cell (p := ⟨b, _, none⟩) hl hne).trans c1, (hb.cell (p := ⟨b, _, none⟩) hl hne).trans c2, (hb.cell (p := ⟨b, _, none⟩) hl hne).trans c3, fun k hk => ?_⟩
 obtain ⟨b2, off, e2, hl2, hc⟩ := ht k hk
 have hne2 : b2 ≠ P := fun e3 => hP _ _ (e3 ▸ hc)
 exact ⟨b2, off, e2, Nat.lt_of_lt_of_le hl2 hb.2.2.2.1, (hb.cell (p := ⟨b2, _, none⟩) hl2 hne2).trans hc⟩
structure TkAt (w wr : World) (g c P : Nat) (ls : List (Fin 3)) (o : Value) (vs : List Value) : Prop where
 but : But P w wr
 lh : wr.heap[w.heap.size]? = some (Obj.cells #[.slice (some ⟨g, 0, none⟩) 3 c] 23)
 rh : wr.heap[w.heap.size + 1]? = some (Obj.cells #[.slice (some ⟨P, 0, none⟩) ls.length 3] 42)
 holds : Go.Sort.Holds encF wr P 0 ls.toArray
 own : wr.ownsRow w.heap.size 3 1 o vs.length vs
 lt : P < w.heap.size
section
variable {w wr w' : World} {g c P : Nat} {ls ls' : List (Fin 3)} {o o' : Value} {vs vs' : List Value}
theorem TkAt.size (h : TkAt w wr g c P ls o vs) : w.heap.size + 2 ≤ wr.heap.size := heap_lt h.rh
theorem holds_same {W W' : World} {d : Array (Fin 3)} (h : Go.Sort.Holds encF W P 0 d) (hb : W'.heap[P]? = W.heap[P]?) : Go.Sort.Holds encF W' P 0 d := fun j hj => by
 obtain ⟨a, b⟩ := h j hj
 exact ⟨(cell_blkT hb _).trans a, by rw [show W'.frozen? ⟨P, 0 + j, none⟩ = W.frozen? ⟨P, 0 + j, none⟩ by unfold World.frozen?; rw [hb]]; exact b⟩
theorem TkAt.below (h : TkAt w wr g c P ls o vs) (hb : Below wr.heap.size wr w') : TkAt w w' g c P ls o vs :=
 ⟨h.but.then_below hb, (hb.block _ (heap_lt h.lh)).trans h.lh, (hb.block _ (heap_lt h.rh)).trans h.rh, holds_same h.holds (hb.block _ (by have := h.lt; have := h.size; omega)), rowBelow h.own hb, h.lt⟩
theorem TkAt.cells (h : TkAt w wr g c P ls o vs) : wr.cell? ⟨w.heap.size, 0, none⟩ = some (.slice (some ⟨g, 0, none⟩) 3 c) ∧ wr.cell? ⟨w.heap.size + 1, 0, none⟩ = some (.slice (some ⟨P, 0, none⟩) ls.length 3) ∧ wr.frozen? ⟨w.heap.size + 1, 0, none⟩ = false :=
 ⟨by rw [cell_of_row wr _ 0 _ _ _ h.lh]; rfl, by rw [cell_of_row wr _ 0 _ _ _ h.rh]; rfl, by simp [World.frozen?, h.rh]⟩
theorem TkAt.left (h : TkAt w wr g c P ls o vs) : LeftAt wr P ls := fun k hk => by
 obtain ⟨a, _⟩ := h.holds k (by simpa using hk)
 rw [Nat.zero_add] at a
 rw [a, getElem!_pos _ k (by simpa using hk)]
 simp
theorem TkAt.grown (h : TkAt w wr g c P ls o vs) {ob : Obj} (hg : (wr.alloc ob).grownBy w' o.ownBlock) (hn : w'.ownsRow w.heap.size 3 1 o' vs'.length vs') : TkAt w w' g c P ls o' vs' := by
 have hg2 := grownAlloc hg
 have hl : ∀ k, o.ownBlock = some k → w.heap.size ≤ k := fun k hk => (h.own.lt k hk).1
 have hs := h.size
 have hlt := h.lt
 have n1 := own_ne h.own h.lh (by decide)
 have n2 := own_ne h.own h.rh (by decide)
 exact ⟨⟨hg2.os.trans h.but.1, hg2.tape.trans h.but.2.1, hg2.output.trans h.but.2.2.1, Nat.le_trans h.but.2.2.2.1 hg2.size, fun k hk hne => (hg2.block k (by omega) (fun e => by have := hl k e.symm; omega)).trans (h.but.2.2.2.2 k hk hne)⟩,
  (hg2.block _ (by omega) (fun e => n1 e.symm)).trans h.lh, (hg2.block _ (by omega) (fun e => n2 e.symm)).trans h.rh, holds_same h.holds (hg2.block _ (by omega) (fun e => by have := hl P e.symm; omega)), hn, h.lt⟩
theorem TkAt.del (h : TkAt w wr g c P ls o vs) (hb : But P wr w') (hH : Go.Sort.Holds encF w' P 0 ls'.toArray) {n : Nat} (hn : ls'.length = n) : (w'.cell? ⟨w.heap.size + 1, 0, none⟩ = some (.slice (some ⟨P, 0, none⟩) ls.length 3) ∧ w'.frozen? ⟨w.heap.size + 1, 0, none⟩ = false) ∧
  TkAt w (w'.setCell ⟨w.heap.size + 1, 0, none⟩ (.slice (some ⟨P, 0, none⟩) n 3)) g c P ls' o vs := by
 subst hn
 have hs := h.size
 have hlt := h.lt
 have e1 := (hb.2.2.2.2 (w.heap.size + 1) (by omega) (by omega)).trans h.rh
 have e0 := (hb.2.2.2.2 w.heap.size (by omega) (by omega)).trans h.lh
 have hne : ∀ k, k ≠ w.heap.size + 1 → ∀ u, (w'.setCell ⟨w.heap.size + 1, 0, none⟩ u).heap[k]? = w'.heap[k]? := fun k hk u => Below.heap_setCell _ _ _ _ hk
 have hrow : w'.ownsRow w.heap.size 3 1 o vs.length vs := by
  refine h.own.kept (row := some P) ⟨hb.1, hb.2.1, hb.2.2.1, hb.2.2.2.1, fun k hk hn => hb.2.2.2.2 k hk (fun e => hn (by rw [e]))⟩ (.inr fun e => ?_)
  have := (h.own.lt P e).1
  omega
 refine ⟨⟨by rw [cell_of_row w' _ 0 _ _ _ e1]; rfl, by simp [World.frozen?, e1]⟩, ⟨?_, (hne _ (by omega) _).trans e0, by simp [World.setCell, Array.getElem?_modify, e1], holds_same hH (hne _ (by omega) _), ?_, h.lt⟩⟩
 ·refine ⟨hb.1.trans h.but.1, hb.2.1.trans h.but.2.1, hb.2.2.1.trans h.but.2.2.1, by have := h.but.2.2.2.1; have := hb.2.2.2.1; simp; omega, fun k hk hk2 => ?_⟩
  exact ((hne k (by omega) _).trans (hb.2.2.2.2 k (by omega) hk2)).trans (h.but.2.2.2.2 k hk hk2)
 ·refine hrow.kept (row := some (w.heap.size + 1)) ⟨rfl, rfl, rfl, by simp, fun k hk hn => hne k (fun e => hn (by rw [e])) _⟩ (.inr (own_ne hrow e1 (by decide)))
end
def slLen : Value → Nat
 | .slice _ n _ => n
 | _ => 0
def iv (n : Int) : Value := .int .i64 n
theorem three_holds {w : World} {P : Nat} (h : Three w P 0 1 2) : Go.Sort.Holds encF w P 0 ([0, 1, 2] : List (Fin 3)).toArray := h.holds
theorem fr1 : freeB [0, 1, 2] 0 = false := by kernel_rfl
theorem fr2 : freeB [0, 1, 2] 1 = true := by kernel_rfl
theorem fr3 : freeB [0, 2] 0 = true := by kernel_rfl
theorem fr4 : freeB [2] 2 = true := by kernel_rfl
set_option maxHeartbeats 6400000 in
set_option maxRecDepth 100000 in
theorem dtaken_any (w : World) (g c P b1 b2 b3 : Nat) (hR : RulesAt w (some ⟨g, 0, none⟩) (stdRM b1 b2 b3)) (hP : Three w P 0 1 2) :
  Calls Tryz.prog 30 #[.slice (some ⟨g, 0, none⟩) 3 c, .slice (some ⟨P, 0, none⟩) 3 3] w fun e w' => ∃ y d, e = .returned (.tuple #[.slice (some ⟨y, 0, none⟩) 3 d, .bool true]) ∧ w'.ownsRow w.heap.size 3 1 (.slice (some ⟨y, 0, none⟩) 3 d) 3 [iv 1, iv 0, iv 2] ∧ But P w w' := by
 have hlt := heap_lt hP
 have hPs : ∀ i s, w.cell? ⟨P, i, none⟩ ≠ some (.string s) := fun i s h => by
  rw [cell_of_row w P i _ _ _ hP] at h
  have h3 : i = 0 ∨ i = 1 ∨ i = 2 ∨ 3 ≤ i := by omega
  rcases h3 with rfl | rfl | rfl | h3
  ·cases h
  ·cases h
  ·cases h
  ·rw [Array.getElem?_eq_none (by simpa using h3)] at h; cases h
 have HT0 : Hid (TkAt w ((w.alloc (Obj.cells #[.slice (some ⟨g, 0, none⟩) 3 c] 23)).alloc (Obj.cells #[.slice (some ⟨P, 0, none⟩) 3 3] 42)) g c P [0, 1, 2] (.slice none 0 0) []) := Lib.hid (by
  obtain ⟨h1, h2, h3, h4⟩ := two_new w (Obj.cells #[.slice (some ⟨g, 0, none⟩) 3 c] 23) (Obj.cells #[.slice (some ⟨P, 0, none⟩) 3 3] 42)
  exact ⟨But.of_below h1, h3, h4, holds_same (three_holds hP) (h1.block _ hlt), World.ownsRow_nil _ _ _ _, hlt⟩)
 have HIX : Hid (∀ wr ls o vs, TkAt w wr g c P ls o vs → ∀ n, ls.length = n → n ≤ 3 → ∀ j (hj : j < n) (hn : ls.length = n), freeB ls (ls[j]'(by omega)) = true → (∀ i (h : i < j), freeB ls (ls[i]'(by omega)) = false) →
   Calls Tryz.prog 61 #[.slice (some ⟨P, 0, none⟩) n 3, .func (.func 62) #[] #[.pointer (some ⟨w.heap.size, 0, none⟩), .pointer (some ⟨w.heap.size + 1, 0, none⟩)]] wr fun e w' => e = .returned (.int .i64 j) ∧ Below wr.heap.size wr w') := Lib.hid fun wr ls o vs h n hn hn3 j hj _ h1 h0 => by
  refine dindex_any wr _ _ P 3 n ls (freeB ls) (fun W hb x => ?_) h.left hn hn3 j hj h1 h0
  have hW := h.below hb
  obtain ⟨k0, k1, _⟩ := hW.cells
  rw [hn] at k1
  exact dfree_any W _ _ g c P 3 n b1 b2 b3 ls k0 k1 (hR.butP hPs hW.but) hW.left hn hn3 x
 have HDL : Hid (∀ W i (ls : List (Fin 3)), Go.Sort.Holds encF W P 0 ls.toArray → ls.length ≤ 3 → i < ls.length → Calls Tryz.prog 64 #[.slice (some ⟨P, 0, none⟩) ls.length 3, .int .i64 i, .int .i64 ((i : Int) + 1)] W fun e w' => e = .returned (.slice (some ⟨P, 0, none⟩) (ls.length - 1) 3) ∧ But P W w' ∧ Go.Sort.Holds encF w' P 0 (ls.eraseIdx i).toArray) := Lib.hid fun W i ls h1 h2 h3 => ddelete_any W P i ls h1 h2 h3
 clear hR hP hPs hlt
 go_enter Tryz.func30, Tryz.ntmps30
 go_wp2
 obtain ⟨W0, hW0⟩ : ∃ W0, (w.alloc (Obj.cells #[.slice (some ⟨g, 0, none⟩) 3 c] 23)).alloc (Obj.cells #[.slice (some ⟨P, 0, none⟩) 3 3] 42) = W0 := ⟨_, rfl⟩
 rw [hW0] at HT0 ⊢
 clear hW0
 go_loopw [6, 7] (fun o _ wr => (o = .slice none 0 0 ∧ Hid (TkAt w wr g c P [0, 1, 2] o [])) ∨ (∃ x d, o = .slice (some ⟨x, 0, none⟩) 1 d ∧ Hid (TkAt w wr g c P [0, 2] o [iv 1])) ∨ (∃ x d, o = .slice (some ⟨x, 0, none⟩) 2 d ∧ Hid (TkAt w wr g c P [2] o [iv 1, iv 0])) ∨ (∃ x d, o = .slice (some ⟨x, 0, none⟩) 3 d ∧ Hid (TkAt w wr g c P [] o [iv 1, iv 0, iv 2]))) (fun o _ _ => 3 - slLen o)
 case atStart => exact .inl ⟨rfl, HT0⟩
 case round =>
  rcases hrel with ⟨rfl, HK⟩ | ⟨x, d, rfl, HK⟩ | ⟨x, d, rfl, HK⟩ | ⟨x, d, rfl, HK⟩
  ·have hix := HIX.out wr [0, 1, 2] _ _ HK.out 3 rfl (by decide) 1 (by decide) rfl fr2 (fun i h => match i, h with | 0, _ => fr1)
   obtain ⟨k0, k1, kf⟩ := HK.out.cells
   go_wp2_with fail
   refine hix.mono ?_
   rintro e w1 ⟨rfl, hb1⟩
   have H1 := Lib.hid (HK.out.below hb1)
   clear hb1 hix k0 k1 kf HIX HK
   obtain ⟨k0, k1, kf⟩ := H1.out.cells
   have kp := H1.out.left 1 (by decide)
   replace k1 : w1.cell? ⟨w.heap.size + 1, 0, none⟩ = some (.slice (some ⟨P, 0, none⟩) 3 3) := k1
   replace kp : w1.cell? ⟨P, 1, none⟩ = some (.int .i64 1) := kp
   go_wp2_with (at_builtin; refine appendIn rfl _ _ rfl (n := 0) (vs := []) H1.out.own (by have := H1.out.size; omega) (by omega) rfl (y := 1) rfl rfl ?_; intro y cap w2 hr2 hg2; have H2 := Lib.hid (TkAt.grown (vs' := [iv 1]) H1.out hg2 hr2); obtain ⟨m0, m1, mf⟩ := H2.out.cells; replace m1 : w2.cell? ⟨w.heap.size + 1, 0, none⟩ = some (.slice (some ⟨P, 0, none⟩) 3 3) := m1; clear hr2 hg2 k0 k1 kf kp)
   refine (HDL.out w2 1 [0, 1, 2] H2.out.holds (by decide) (by decide)).mono ?_
   rintro e w3 ⟨rfl, hb3, hh3⟩
   obtain ⟨⟨z1, z2⟩, ht4⟩ := TkAt.del H2.out hb3 hh3 (n := 2) rfl
   have HN : Hid (TkAt w (w3.setCell ⟨w.heap.size + 1, 0, none⟩ (.slice (some ⟨P, 0, none⟩) 2 3)) g c P [0, 2] (.slice (some ⟨y, 0, none⟩) 1 cap) [iv 1]) := Lib.hid ht4
   clear hb3 hh3 ht4 m0 m1 mf
   go_wp2
   go_roundw
   case rel => exact .inr (.inl ⟨y, cap, rfl, HN⟩)
   case measure => simp [slLen]
  ·have hix := HIX.out wr [0, 2] _ _ HK.out 2 rfl (by decide) 0 (by decide) rfl fr3 (fun i h => absurd h (Nat.not_lt_zero i))
   obtain ⟨k0, k1, kf⟩ := HK.out.cells
   go_wp2_with fail
   refine hix.mono ?_
   rintro e w1 ⟨rfl, hb1⟩
   have H1 := Lib.hid (HK.out.below hb1)
   clear hb1 hix k0 k1 kf HIX HK
   obtain ⟨k0, k1, kf⟩ := H1.out.cells
   have kp := H1.out.left 0 (by decide)
   replace k1 : w1.cell? ⟨w.heap.size + 1, 0, none⟩ = some (.slice (some ⟨P, 0, none⟩) 2 3) := k1
   replace kp : w1.cell? ⟨P, 0, none⟩ = some (.int .i64 0) := kp
   go_wp2_with (at_builtin; refine appendIn rfl _ _ rfl (n := 1) (vs := [iv 1]) H1.out.own (by have := H1.out.size; omega) (by omega) rfl (y := 0) rfl rfl ?_; intro y cap w2 hr2 hg2; have H2 := Lib.hid (TkAt.grown (vs' := [iv 1, iv 0]) H1.out hg2 hr2); obtain ⟨m0, m1, mf⟩ := H2.out.cells; replace m1 : w2.cell? ⟨w.heap.size + 1, 0, none⟩ = some (.slice (some ⟨P, 0, none⟩) 2 3) := m1; clear hr2 hg2 k0 k1 kf kp)
   refine (HDL.out w2 0 [0, 2] H2.out.holds (by decide) (by decide)).mono ?_
   rintro e w3 ⟨rfl, hb3, hh3⟩
   obtain ⟨⟨z1, z2⟩, ht4⟩ := TkAt.del H2.out hb3 hh3 (n := 1) rfl
   have HN : Hid (TkAt w (w3.setCell ⟨w.heap.size + 1, 0, none⟩ (.slice (some ⟨P, 0, none⟩) 1 3)) g c P [2] (.slice (some ⟨y, 0, none⟩) 2 cap) [iv 1, iv 0]) := Lib.hid ht4
   clear hb3 hh3 ht4 m0 m1 mf
   go_wp2
   go_roundw
   case rel => exact .inr (.inr (.inl ⟨y, cap, rfl, HN⟩))
   case measure => simp [slLen]
  ·have hix := HIX.out wr [2] _ _ HK.out 1 rfl (by decide) 0 (by decide) rfl fr4 (fun i h => absurd h (Nat.not_lt_zero i))
   obtain ⟨k0, k1, kf⟩ := HK.out.cells
   go_wp2_with fail
   refine hix.mono ?_
   rintro e w1 ⟨rfl, hb1⟩
   have H1 := Lib.hid (HK.out.below hb1)
   clear hb1 hix k0 k1 kf HIX HK
   obtain ⟨k0, k1, kf⟩ := H1.out.cells
   have kp := H1.out.left 0 (by decide)
   replace k1 : w1.cell? ⟨w.heap.size + 1, 0, none⟩ = some (.slice (some ⟨P, 0, none⟩) 1 3) := k1
   replace kp : w1.cell? ⟨P, 0, none⟩ = some (.int .i64 2) := kp
   go_wp2_with (at_builtin; refine appendIn rfl _ _ rfl (n := 2) (vs := [iv 1, iv 0]) H1.out.own (by have := H1.out.size; omega) (by omega) rfl (y := 2) rfl rfl ?_; intro y cap w2 hr2 hg2; have H2 := Lib.hid (TkAt.grown (vs' := [iv 1, iv 0, iv 2]) H1.out hg2 hr2); obtain ⟨m0, m1, mf⟩ := H2.out.cells; replace m1 : w2.cell? ⟨w.heap.size + 1, 0, none⟩ = some (.slice (some ⟨P, 0, none⟩) 1 3) := m1; clear hr2 hg2 k0 k1 kf kp)
   refine (HDL.out w2 0 [2] H2.out.holds (by decide) (by decide)).mono ?_
   rintro e w3 ⟨rfl, hb3, hh3⟩
   obtain ⟨⟨z1, z2⟩, ht4⟩ := TkAt.del H2.out hb3 hh3 (n := 0) rfl
   have HN : Hid (TkAt w (w3.setCell ⟨w.heap.size + 1, 0, none⟩ (.slice (some ⟨P, 0, none⟩) 0 3)) g c P [] (.slice (some ⟨y, 0, none⟩) 3 cap) [iv 1, iv 0, iv 2]) := Lib.hid ht4
   clear hb3 hh3 ht4 m0 m1 mf
   go_wp2
   go_roundw
   case rel => exact .inr (.inr (.inr ⟨y, cap, rfl, HN⟩))
   case measure => simp [slLen]
  ·obtain ⟨k0, k1, kf⟩ := HK.out.cells
   replace k1 : wr.cell? ⟨w.heap.size + 1, 0, none⟩ = some (.slice (some ⟨P, 0, none⟩) 0 3) := k1
   have HE : Hid (wr.ownsRow w.heap.size 3 1 (.slice (some ⟨x, 0, none⟩) 3 d) 3 [iv 1, iv 0, iv 2] ∧ But P w wr) := Lib.hid ⟨HK.out.own, HK.out.but⟩
   go_wp2
   go_ret2
   exact ⟨x, d, rfl, HE.out⟩
end Go.Proofs.YtlcgfdijohgnpaaGreatDoor

namespace Go.Proofs.YtlcgfdijohgnpaaGreatDoor
open Go.ChangeShapes Go.WideShapes Go.ChangeAt Go.RowKit

theorem good0 : GoodR ⟨⟨#[98, 111, 111, 116, 46, 108, 105, 109, 105, 116]⟩, [⟨#[98, 111, 111, 116, 46, 119, 111, 114, 107, 101, 114, 115]⟩], 4, 16⟩ := ⟨by kernel_rfl, by decide, by decide, by decide, fun _ => rfl, fun s hs => by rw [List.mem_singleton.1 hs]; exact ⟨by kernel_rfl, by decide⟩, by decide, by decide, by decide, by decide, fun h => absurd h (by decide)⟩
theorem good1 : GoodR ⟨⟨#[98, 111, 111, 116, 46, 119, 111, 114, 107, 101, 114, 115]⟩, [⟨#[98, 111, 111, 116, 46, 115, 101, 114, 118, 105, 99, 101, 115]⟩], 6, 1⟩ := ⟨by kernel_rfl, by decide, by decide, by decide, fun _ => rfl, fun s hs => by rw [List.mem_singleton.1 hs]; exact ⟨by kernel_rfl, by decide⟩, by decide, by decide, by decide, by decide, fun h => absurd h (by decide)⟩
theorem good2 : GoodR ⟨⟨#[115, 116, 111, 114, 101, 46, 112, 97, 103, 101]⟩, [⟨#[115, 116, 111, 114, 101, 46, 99, 97, 99, 104, 101]⟩], 5, 1024⟩ := ⟨by kernel_rfl, by decide, by decide, by decide, fun _ => rfl, fun s hs => by rw [List.mem_singleton.1 hs]; exact ⟨by kernel_rfl, by decide⟩, by decide, by decide, by decide, by decide, fun _ => by decide⟩
theorem std_good (b1 b2 b3 i : Nat) (h : i < (stdRM b1 b2 b3).length) : GoodR ((stdRM b1 b2 b3)[i]).x := by
 have h3 : i = 0 ∨ i = 1 ∨ i = 2 := by simp [stdRM] at h; omega
 rcases h3 with rfl | rfl | rfl
 ·exact good0
 ·exact good1
 ·exact good2
def OrdRes (w : World) (e : Ending) (w' : World) : Prop := ∃ y d, e = .returned (.tuple #[.slice (some ⟨y, 0, none⟩) 3 d, .int .i64 0]) ∧ w'.ownsRow w.heap.size 3 1 (.slice (some ⟨y, 0, none⟩) 3 d) 3 [iv 1, iv 0, iv 2] ∧ Below w.heap.size w w'
set_option maxHeartbeats 3200000 in
set_option maxRecDepth 100000 in
theorem dorder_any (w : World) (g c b1 b2 b3 : Nat) (hR : RulesAt w (some ⟨g, 0, none⟩) (stdRM b1 b2 b3)) (hT : Tab w) :
  Calls Tryz.prog 11 #[.slice (some ⟨g, 0, none⟩) 3 c] w (OrdRes w) := by
 have HR := Lib.hid hR
 have HT := Lib.hid hT
 clear hR hT
 go_enter Tryz.func11, Tryz.ntmps11
 go_wp2
 go_loopw [5, 14] (fun _ i wr => ∃ t : Nat, i = .int .i64 t ∧ t ≤ 3 ∧ Hid (Below w.heap.size w wr)) (fun _ i _ => 3 - (intOf i).toNat)
 case atStart => exact ⟨0, rfl, by omega, Lib.hid (Below.refl _ _)⟩
 case round =>
  obtain ⟨t, rfl, ht, HK⟩ := hrel
  by_cases hlt : t < 3
  ·have q1 : (0 : Int) ≤ t := by omega
   have q2 : (t : Int) < 3 := by omega
   obtain ⟨b, e, hbl, c0, c1, c2, c3, htx⟩ := (HR.out.below HK.out) t hlt
   injection e with e
   injection e with e _ _
   subst e
   have hgood := std_good b1 b2 b3 t hlt
   generalize (stdRM b1 b2 b3)[t] = m at c0 c1 c2 c3 htx hgood
   have HRT : Hid (∀ W, Below wr.heap.size wr W → Calls Tryz.prog 27 #[rAgg m] W fun e w' => e = .returned (.bool true) ∧ Below W.heap.size W w') := Lib.hid fun W hb => dright_any m W hgood (htx.below hb) ((HT.out.below HK.out).below hb)
   have HB1 : Hid (∀ o, Below wr.heap.size wr (wr.alloc o)) := Lib.hid fun o => below_one wr o
   clear htx hgood
   unfold rAgg at HRT
   obtain ⟨⟨tg, ns, op, ad⟩, a, mc⟩ := m
   simp only at c0 c1 c2 c3 HRT
   generalize ns.length = nl at c1 HRT
   go_wp2_with fail
   refine (HRT.out _ (HB1.out _)).mono ?_
   rintro e w2 ⟨rfl, hb2⟩
   have HN := Lib.hid (HK.out.trans (((HB1.out _).trans (hb2.mono (HB1.out _).size)).mono HK.out.size))
   clear hb2 HRT HB1
   go_wp2
   go_roundw
   case rel => exact ⟨t + 1, by go_num, by omega, HN⟩
   case measure => simp [intOf]; omega
  ·obtain rfl : t = 3 := by omega
   have hBY := dby_any wr g c b1 b2 b3 (HR.out.below HK.out)
   go_wp2_with fail
   refine hBY.mono ?_
   rintro e w2 ⟨rfl, h3, hb2⟩
   have H3 := Lib.hid h3
   have HB2 := Lib.hid (HK.out.trans (hb2.mono HK.out.size))
   have HPW : Hid (w.heap.size ≤ wr.heap.size + 1) := Lib.hid (by have := HK.out.size; omega)
   generalize wr.heap.size + 1 = P at *
   have hTW := dtwice_any w2 g c P (tgt_of (HR.out.below HB2.out)) H3.out
   clear h3 hb2 hBY HK
   go_wp2_with fail
   refine hTW.mono ?_
   rintro e w3 ⟨rfl, hb3⟩
   have HB3 := Lib.hid (HB2.out.trans (hb3.mono HB2.out.size))
   have hTK := dtaken_any w3 g c P b1 b2 b3 (HR.out.below HB3.out) (H3.out.below hb3)
   clear hb3 hTW HB2 H3
   go_wp2_with fail
   refine hTK.mono ?_
   rintro e w4 ⟨y, d, rfl, hr4, hb4⟩
   have HE : Hid (OrdRes w (.returned (.tuple #[.slice (some ⟨y, 0, none⟩) 3 d, .int .i64 0])) w4) := Lib.hid ⟨y, d, rfl, ownLess hr4 HB3.out.size, HB3.out.trans (hb4.below HPW.out HB3.out.size)⟩
   clear hr4 hb4 hTK HB3 HPW
   go_wp2
   go_ret2
   exact HE.out
end Go.Proofs.YtlcgfdijohgnpaaGreatDoor

namespace Go.Proofs.YtlcgfdijohgnpaaGreatDoor
open Go.ChangeShapes Go.WideShapes Go.ChangeAt Go.RowKit

set_option maxHeartbeats 1600000 in
set_option maxRecDepth 100000 in
theorem disNum_any (nm : ByteArray) (v : Val) (y : Option Addr) (d : Nat) (fr : Int) (w : World) (h : v.kind = 2 ∨ v.kind = 3 ∨ v.kind = 4) :
  Calls Tryz.prog 43 #[sVal nm v y d fr] w fun e w' => e = .returned (.bool true) ∧ Below w.heap.size w w' := by
 have HB : Hid (∀ o, Below w.heap.size w (w.alloc o)) := Lib.hid fun o => below_one w o
 unfold sVal
 obtain ⟨kd, it, tx, ws⟩ := v
 simp only at h ⊢
 generalize ws.length = n
 rcases h with rfl | rfl | rfl
 all_goals
  go_enter Tryz.func43, Tryz.ntmps43
  go_wp2
  go_ret
  exact ⟨rfl, HB.out _⟩
set_option maxHeartbeats 1600000 in
set_option maxRecDepth 100000 in
theorem dmayNeed_any (nm : ByteArray) (v : Val) (y : Option Addr) (d : Nat) (fr op : Int) (w : World) (h : (op = 6 ∧ v.kind = 6) ∨ (op ≠ 6 ∧ (v.kind = 2 ∨ v.kind = 3 ∨ v.kind = 4))) :
  Calls Tryz.prog 44 #[sVal nm v y d fr, .int .i64 op] w fun e w' => e = .returned (.bool true) ∧ Below w.heap.size w w' := by
 have HB : Hid (∀ o, Below w.heap.size w (w.alloc o)) := Lib.hid fun o => below_one w o
 rcases h with ⟨rfl, h⟩ | ⟨h1, h⟩
 ·unfold sVal
  obtain ⟨kd, it, tx, ws⟩ := v
  simp only at h ⊢
  generalize ws.length = n
  subst h
  go_enter Tryz.func44, Tryz.ntmps44
  go_wp2
  go_ret
  exact ⟨rfl, HB.out _⟩
 ·have HN : Hid (∀ W, Calls Tryz.prog 43 #[sVal nm v y d fr] W fun e w' => e = .returned (.bool true) ∧ Below W.heap.size W w') := Lib.hid fun W => disNum_any nm v y d fr W h
  have d1 : (op == 6) = false := beq_eq_false_iff_ne.2 h1
  unfold sVal at HN ⊢
  obtain ⟨kd, it, tx, ws⟩ := v
  simp only at HN ⊢
  generalize ws.length = n at HN ⊢
  clear h h1
  go_enter Tryz.func44, Tryz.ntmps44
  go_wp2_with fail
  refine (HN.out _).mono ?_
  rintro e w2 ⟨rfl, hb2⟩
  have HE := Lib.hid ((HB.out _).trans (hb2.mono (HB.out _).size))
  clear hb2
  go_wp2
  go_ret
  exact ⟨rfl, HE.out⟩
theorem get_at {w w' : World} {ms : List SetM} {s : ByteArray} {e : Ending} {j : Nat} (h : GtRes w ms s e w') (hp : placeN (namesM ms) s = (j : Int)) (hj : j < ms.length) : ∃ y d, e = .returned (.tuple #[sVal (ms[j]).x.name (ms[j]).x.val y d (ms[j]).x.from_, .bool true]) ∧ Below w.heap.size w w' ∧ w'.ownsRow w.heap.size 9 1 (.slice y (ms[j]).x.val.words.length d) (ms[j]).x.val.words.length ((ms[j]).x.val.words.map Value.string) := by
 obtain ⟨hb, ⟨h1, _⟩ | ⟨j2, h2, h1, y, d, he, hr⟩⟩ := h
 ·omega
 ·obtain rfl : j2 = j := by omega
  exact ⟨y, d, he, hb, hr⟩
def GetsAt (w : World) (X : Nat) (s : ByteArray) (x : SetV) : Prop := ∀ W, Below w.heap.size w W → Calls Tryz.prog 10 #[.pointer (some ⟨X, 0, none⟩), .string s] W fun e w' => ∃ y d, e = .returned (.tuple #[sVal x.name x.val y d x.from_, .bool true]) ∧ Below W.heap.size W w' ∧ w'.ownsRow W.heap.size 9 1 (.slice y x.val.words.length d) x.val.words.length (x.val.words.map Value.string)
theorem GetsAt.below {w w' : World} {X : Nat} {s : ByteArray} {x : SetV} (h : GetsAt w X s x) (hb : Below w.heap.size w w') : GetsAt w' X s x := fun W hW => h W (hb.trans (hW.mono hb.size))
set_option maxHeartbeats 1600000 in
set_option maxRecDepth 100000 in
theorem dhasAll_any (w : World) (X : Nat) (m : RuleM) (s : ByteArray) (tx nx : SetV) (hm : m.x.needs = [s]) (ht : TxAt w m.a m.x.needs) (hg1 : GetsAt w X m.x.target tx) (hg2 : GetsAt w X s nx) (hk1 : tx.val.kind = 2 ∨ tx.val.kind = 3 ∨ tx.val.kind = 4) (hk2 : (m.x.op = 6 ∧ nx.val.kind = 6) ∨ (m.x.op ≠ 6 ∧ (nx.val.kind = 2 ∨ nx.val.kind = 3 ∨ nx.val.kind = 4))) :
  Calls Tryz.prog 20 #[.pointer (some ⟨X, 0, none⟩), rAgg m] w fun e w' => e = .returned (.bool true) ∧ Below w.heap.size w w' := by
 have HB : Hid (∀ o, Below w.heap.size w (w.alloc o)) := Lib.hid fun o => below_one w o
 have HG1 := Lib.hid hg1
 have HG2 := Lib.hid hg2
 have HN : Hid (∀ y d W, Calls Tryz.prog 43 #[sVal tx.name tx.val y d tx.from_] W fun e w' => e = .returned (.bool true) ∧ Below W.heap.size W w') := Lib.hid fun y d W => disNum_any _ _ y d _ W hk1
 have HM : Hid (∀ y d W, Calls Tryz.prog 44 #[sVal nx.name nx.val y d nx.from_, .int .i64 m.x.op] W fun e w' => e = .returned (.bool true) ∧ Below W.heap.size W w') := Lib.hid fun y d W => dmayNeed_any _ _ y d _ _ W hk2
 obtain ⟨nb, noff, hna, hnl, hnc⟩ := ht 0 (by rw [hm]; exact Nat.zero_lt_one)
 obtain ⟨⟨tg, ns, op, ad⟩, a, mc⟩ := m
 simp only at hm hna HG1 HM
 subst hm hna
 have HNC : Hid (∀ W, Below w.heap.size w W → W.cell? ⟨nb, noff + 0, none⟩ = some (.string s)) := Lib.hid fun W hb => (hb.cell (p := ⟨nb, noff + 0, none⟩) hnl).trans hnc
 have HX : Hid (∀ t, Box4 (w.alloc (Obj.cells #[.string tg, .slice (some ⟨nb, noff, none⟩) 1 mc, .int .i64 op, .int .i64 ad] t)) w.heap.size (.string tg) (.slice (some ⟨nb, noff, none⟩) 1 mc) (.int .i64 op) (.int .i64 ad)) := Lib.hid fun t => box4_new w _ _ _ _ t
 unfold rAgg
 obtain ⟨tnm, ⟨tk, ti, tt, tw⟩, tf⟩ := tx
 obtain ⟨nnm, ⟨nk, ni, nt, nw⟩, nf⟩ := nx
 unfold GetsAt at *
 unfold sVal at *
 simp only at HN HM HG1 HG2 ⊢
 generalize tw.length = twn at *
 generalize nw.length = nwn at *
 simp only [List.length_singleton]
 clear ht hg1 hg2 hk1 hk2 hnl hnc
 have hg := HG1.out _ (HB.out (Obj.cells #[.string tg, .slice (some ⟨nb, noff, none⟩) 1 mc, .int .i64 op, .int .i64 ad] 28))
 go_enter Tryz.func20, Tryz.ntmps20
 go_wp2_with fail
 refine hg.mono ?_
 rintro e w2 ⟨y, d, rfl, hb2, _⟩
 have HX2 := Lib.hid ((HX.out 28).below hb2)
 have HB2 := Lib.hid ((HB.out _).trans (hb2.mono (HB.out _).size))
 clear hb2 hg
 go_wp2_with fail
 refine (HN.out _ _ _).mono ?_
 rintro e w3 ⟨rfl, hb3⟩
 have hb23 := (below_one w2 (Obj.cells #[.string tnm, .int .i64 tk, .int .i64 ti, .string tt, .slice y twn d, .int .i64 tf] 39)).trans (hb3.mono (below_one w2 _).size)
 have HX3 := Lib.hid (HX2.out.below hb23)
 have HB3 := Lib.hid (HB2.out.trans (hb23.mono HB2.out.size))
 clear hb3 hb23 HX2 HB2
 obtain ⟨x0, x1, x2, x3, _, _, _, _⟩ := HX3.out
 go_wp2
 clear x0 x1 x2 x3
 go_loopw [8, 9, 10, 28] (fun _ _ _ i wr => (i = .int .i64 0 ∨ i = .int .i64 1) ∧ Hid (Below w.heap.size w wr ∧ Box4 wr w.heap.size (.string tg) (.slice (some ⟨nb, noff, none⟩) 1 mc) (.int .i64 op) (.int .i64 ad))) (fun _ _ _ i _ => 1 - (intOf i).toNat)
 case atStart => exact ⟨.inl rfl, Lib.hid ⟨HB3.out, HX3.out⟩⟩
 case round =>
  obtain ⟨rfl | rfl, HK⟩ := hrel
  ·have k0 := HNC.out wr HK.out.1
   have hg := HG2.out wr HK.out.1
   rw [Nat.add_zero] at k0
   go_wp2_with fail
   refine hg.mono ?_
   rintro e w4 ⟨z, f, rfl, hb4, _⟩
   have hb5 := hb4.trans ((below_one w4 (Obj.cells #[.string nnm, .int .i64 nk, .int .i64 ni, .string nt, .slice z nwn f, .int .i64 nf] 39)).mono hb4.size)
   obtain ⟨x0, x1, x2, x3, _, _, _, _⟩ := HK.out.2.below hb5
   have HB5 := Lib.hid hb5
   clear hb4 hb5 hg k0
   go_wp2_with fail
   refine (HM.out _ _ _).mono ?_
   rintro e w6 ⟨rfl, hb6⟩
   have hb7 := HB5.out.trans (hb6.mono HB5.out.size)
   have HN2 := Lib.hid (And.intro (HK.out.1.trans (hb7.mono HK.out.1.size)) (HK.out.2.below hb7))
   clear hb6 hb7
   go_wp2
   go_roundw
   case rel => exact ⟨.inr rfl, HN2⟩
   case measure => simp [intOf]
  ·go_wp2
   go_ret
   exact ⟨rfl, HK.out.1⟩
end Go.Proofs.YtlcgfdijohgnpaaGreatDoor

namespace Go.Proofs.YtlcgfdijohgnpaaGreatDoor
open Go.ChangeShapes Go.WideShapes Go.ChangeAt Go.RowKit

set_option maxHeartbeats 1600000 in
set_option maxRecDepth 100000 in
theorem disNumber_any (n : Int) (w : World) (h1 : 0 ≤ n) (h2 : n ≤ 1000000000) :
  Calls Tryz.prog 104 #[.int .i64 n] w fun e w' => e = .returned (.bool true) ∧ w = w' := by
 have q1 : -4611686018427387904 ≤ n := by omega
 have q2 : n ≤ 4611686018427387904 := by omega
 go_enter Tryz.func104, Tryz.ntmps104
 go_wp2
 go_ret
 exact ⟨rfl, rfl⟩
set_option maxHeartbeats 1600000 in
set_option maxRecDepth 100000 in
theorem dsize_any (n : Int) (w : World) (h1 : 0 ≤ n) (h2 : n ≤ 1000000000) :
  Calls Tryz.prog 107 #[.int .i64 n] w fun e w' => e = .returned (.int .i64 n) ∧ w = w' := by
 have hw : IntKind.i64.wrap (-n) = -n := IntWalk.i64_in _ (by omega)
 go_enter Tryz.func107, Tryz.ntmps107
 go_wp2
 go_ret
 exact ⟨by rw [Int.max_eq_left (by omega)]; rfl, rfl⟩
set_option maxHeartbeats 1600000 in
set_option maxRecDepth 100000 in
theorem dadded_any (w : World) (y d : Nat) (h0 : w.cell? ⟨y, 0, none⟩ = some (.int .i64 2)) (h1 : w.cell? ⟨y, 1, none⟩ = some (.int .i64 1)) :
  Calls Tryz.prog 76 #[.slice (some ⟨y, 0, none⟩) 2 d] w fun e w' => e = .returned (.tuple #[.int .i64 3, .bool true]) ∧ w = w' := by
 have HN : Hid (∀ n, 0 ≤ n → n ≤ 1000000000 → ∀ w, Calls Tryz.prog 104 #[.int .i64 n] w fun e w' => e = .returned (.bool true) ∧ w = w') := Lib.hid fun n h1 h2 w => disNumber_any n w h1 h2
 go_enter Tryz.func76, Tryz.ntmps76
 go_wp2
 go_loopw [4, 6, 9] (fun s _ i wr => w = wr ∧ ((i = .int .i64 0 ∧ s = .int .i64 0) ∨ (i = .int .i64 1 ∧ s = .int .i64 2) ∨ (i = .int .i64 2 ∧ s = .int .i64 3))) (fun _ _ i _ => 2 - (intOf i).toNat)
 case atStart => exact ⟨rfl, .inl ⟨rfl, rfl⟩⟩
 case round =>
  obtain ⟨rfl, ⟨rfl, rfl⟩ | ⟨rfl, rfl⟩ | ⟨rfl, rfl⟩⟩ := hrel
  ·go_wp2_with fail
   refine (HN.out 2 (by decide) (by decide) _).mono ?_
   rintro e w2 ⟨rfl, rfl⟩
   go_wp2
   exact ⟨⟨trivial, .inr (.inl ⟨rfl, rfl⟩)⟩, by simp [intOf]⟩
  ·go_wp2_with fail
   refine (HN.out 3 (by decide) (by decide) _).mono ?_
   rintro e w2 ⟨rfl, rfl⟩
   go_wp2
   exact ⟨⟨trivial, .inr (.inr ⟨rfl, rfl⟩)⟩, by simp [intOf]⟩
  ·go_wp2
   go_ret2
   exact ⟨rfl, rfl⟩
set_option maxHeartbeats 1600000 in
set_option maxRecDepth 100000 in
theorem dmul_any (w : World) (y d : Nat) (h0 : w.cell? ⟨y, 0, none⟩ = some (.int .i64 3)) (h1 : w.cell? ⟨y, 1, none⟩ = some (.int .i64 16)) :
  Calls Tryz.prog 79 #[.slice (some ⟨y, 0, none⟩) 2 d] w fun e w' => e = .returned (.tuple #[.int .i64 48, .bool true]) ∧ w = w' := by
 have HN : Hid (∀ n, 0 ≤ n → n ≤ 1000000000 → ∀ w, Calls Tryz.prog 107 #[.int .i64 n] w fun e w' => e = .returned (.int .i64 n) ∧ w = w') := Lib.hid fun n h1 h2 w => dsize_any n w h1 h2
 go_enter Tryz.func79, Tryz.ntmps79
 go_wp2
 go_loopw [4, 6, 9] (fun s _ i wr => w = wr ∧ ((i = .int .i64 0 ∧ s = .int .i64 1) ∨ (i = .int .i64 1 ∧ s = .int .i64 3) ∨ (i = .int .i64 2 ∧ s = .int .i64 48))) (fun _ _ i _ => 2 - (intOf i).toNat)
 case atStart => exact ⟨rfl, .inl ⟨rfl, rfl⟩⟩
 case round =>
  obtain ⟨rfl, ⟨rfl, rfl⟩ | ⟨rfl, rfl⟩ | ⟨rfl, rfl⟩⟩ := hrel
  ·go_wp2_with fail
   refine (HN.out 1 (by decide) (by decide) _).mono ?_
   rintro e w2 ⟨rfl, rfl⟩
   go_wp2_with fail
   refine (HN.out 3 (by decide) (by decide) _).mono ?_
   rintro e w2 ⟨rfl, rfl⟩
   go_wp2
   exact ⟨⟨trivial, .inr (.inl ⟨rfl, rfl⟩)⟩, by simp [intOf]⟩
  ·go_wp2_with fail
   refine (HN.out 3 (by decide) (by decide) _).mono ?_
   rintro e w2 ⟨rfl, rfl⟩
   go_wp2_with fail
   refine (HN.out 16 (by decide) (by decide) _).mono ?_
   rintro e w2 ⟨rfl, rfl⟩
   go_wp2
   exact ⟨⟨trivial, .inr (.inr ⟨rfl, rfl⟩)⟩, by simp [intOf]⟩
  ·go_wp2
   go_ret2
   exact ⟨rfl, rfl⟩
set_option maxHeartbeats 1600000 in
set_option maxRecDepth 100000 in
theorem dshared_any (w : World) (y d : Nat) (h0 : w.cell? ⟨y, 0, none⟩ = some (.int .i64 4194304)) (h1 : w.cell? ⟨y, 1, none⟩ = some (.int .i64 1024)) :
  Calls Tryz.prog 80 #[.slice (some ⟨y, 0, none⟩) 2 d] w fun e w' => e = .returned (.tuple #[.int .i64 4096, .bool true]) ∧ Below w.heap.size w w' := by
 have HB : Hid (∀ q, Below w.heap.size w (w.drewN q)) := Lib.hid fun q => below_drewN w q
 go_enter Tryz.func80, Tryz.ntmps80
 go_wp2
 go_region
 go_wp2
 go_ret2
 exact ⟨rfl, HB.out _⟩
def numD (op : Int) (x : SetV) : Int := if op = 6 then x.val.words.length else x.val.int
set_option maxHeartbeats 3200000 in
set_option maxRecDepth 100000 in
theorem dnumbers_any (w : World) (X : Nat) (m : RuleM) (s : ByteArray) (nx : SetV) (hm : m.x.needs = [s]) (ht : TxAt w m.a m.x.needs) (hg2 : GetsAt w X s nx) :
  Calls Tryz.prog 47 #[rAgg m, .pointer (some ⟨X, 0, none⟩)] w fun e w' => ∃ y d, e = .returned (.slice (some ⟨y, 0, none⟩) 2 d) ∧ w'.ownsRow w.heap.size 3 1 (.slice (some ⟨y, 0, none⟩) 2 d) 2 [iv (numD m.x.op nx), iv m.x.add] ∧ Below w.heap.size w w' := by
 have HB : Hid (∀ o, Below w.heap.size w (w.alloc o)) := Lib.hid fun o => below_one w o
 have HG2 := Lib.hid hg2
 obtain ⟨nb, noff, hna, hnl, hnc⟩ := ht 0 (by rw [hm]; exact Nat.zero_lt_one)
 obtain ⟨⟨tg, ns, op, ad⟩, a, mc⟩ := m
 simp only at hm hna HG2
 subst hm hna
 have HNC : Hid (∀ W, Below w.heap.size w W → W.cell? ⟨nb, noff + 0, none⟩ = some (.string s)) := Lib.hid fun W hb => (hb.cell (p := ⟨nb, noff + 0, none⟩) hnl).trans hnc
 have HX : Hid (∀ t, Box4 (w.alloc (Obj.cells #[.string tg, .slice (some ⟨nb, noff, none⟩) 1 mc, .int .i64 op, .int .i64 ad] t)) w.heap.size (.string tg) (.slice (some ⟨nb, noff, none⟩) 1 mc) (.int .i64 op) (.int .i64 ad)) := Lib.hid fun t => box4_new w _ _ _ _ t
 unfold rAgg
 obtain ⟨V, hV⟩ : ∃ V, numD op nx = V := ⟨_, rfl⟩
 obtain ⟨nnm, ⟨nk, ni, nt, nw⟩, nf⟩ := nx
 unfold GetsAt sVal at HG2
 unfold numD at hV
 simp only at HG2 hV ⊢
 rw [show numD op ⟨nnm, ⟨nk, ni, nt, nw⟩, nf⟩ = V from hV]
 obtain ⟨nwn, hnw⟩ : ∃ n, nw.length = n := ⟨_, rfl⟩
 rw [hnw] at HG2 hV
 simp only [List.length_singleton]
 have h6 : (op = 6 ∧ V = nwn) ∨ ((op == 6) = false ∧ V = ni) := by
  by_cases h : op = 6
  ·rw [if_pos h] at hV; exact .inl ⟨h, hV.symm⟩
  ·rw [if_neg h] at hV; exact .inr ⟨beq_eq_false_iff_ne.2 h, hV.symm⟩
 clear ht hg2 hnl hnc hV hnw
 go_enter Tryz.func47, Tryz.ntmps47
 go_wp2
 go_loopw [5, 7, 8, 9, 10, 14] (fun o _ _ _ _ i wr => ((i = .int .i64 0 ∧ o = .slice none 0 0) ∨ (i = .int .i64 1 ∧ ∃ y d, o = .slice (some ⟨y, 0, none⟩) 1 d ∧ Hid (wr.ownsRow w.heap.size 3 1 o 1 [iv V]))) ∧ Hid (Below w.heap.size w wr ∧ Box4 wr w.heap.size (.string tg) (.slice (some ⟨nb, noff, none⟩) 1 mc) (.int .i64 op) (.int .i64 ad))) (fun _ _ _ _ _ i _ => 1 - (intOf i).toNat)
 case atStart => exact ⟨.inl ⟨rfl, rfl⟩, Lib.hid ⟨HB.out _, HX.out _⟩⟩
 case round =>
  obtain ⟨⟨rfl, rfl⟩ | ⟨rfl, y, d, rfl, HR⟩, HK⟩ := hrel
  ·have k0 := HNC.out wr HK.out.1
   have hg := HG2.out wr HK.out.1
   rw [Nat.add_zero] at k0
   go_wp2_with fail
   refine hg.mono ?_
   rintro e w4 ⟨z, f, rfl, hb4, _⟩
   have hb5 := hb4.trans ((below_one w4 (Obj.cells #[.string nnm, .int .i64 nk, .int .i64 ni, .string nt, .slice z nwn f, .int .i64 nf] 39)).mono hb4.size)
   obtain ⟨x0, x1, x2, x3, _, _, _, _⟩ := HK.out.2.below hb5
   have HB5 := Lib.hid (And.intro (HK.out.1.trans (hb5.mono HK.out.1.size)) (HK.out.2.below hb5))
   clear hb4 hb5 hg k0
   rcases h6 with ⟨rfl, rfl⟩ | ⟨h6, hVn⟩
   ·go_wp2_with (at_builtin; refine appendIn rfl _ _ rfl (n := 0) (vs := []) (World.ownsRow_nil _ w.heap.size _ _) (by have := HB5.out.1.size; simpa using this) (by omega) rfl (y := (nwn : Int)) rfl (by simp) ?_; intro k cap w6 hr6 hg6; have HR6 : Hid (w6.ownsRow w.heap.size 3 1 (.slice (some ⟨k, 0, none⟩) 1 cap) 1 [iv (nwn : Int)]) := Lib.hid hr6; have hb6 := (below_one _ (Obj.cells #[.int .i64 (nwn : Int)] 3)).trans (((Below.refl _ _).grown hg6 (Nat.le_refl _) (fun k hk => by cases hk)).mono (below_one _ _).size); have HN := Lib.hid (And.intro (HB5.out.1.trans (hb6.mono HB5.out.1.size)) (HB5.out.2.below hb6)); clear hr6 hg6 hb6)
    exact ⟨⟨.inr ⟨rfl, k, cap, rfl, HR6⟩, HN⟩, by simp [intOf]⟩
   ·subst hVn
    go_wp2_with (at_builtin; refine appendIn rfl _ _ rfl (n := 0) (vs := []) (World.ownsRow_nil _ w.heap.size _ _) (by have := HB5.out.1.size; simpa using this) (by omega) rfl (y := V) rfl (by simp) ?_; intro k cap w6 hr6 hg6; have HR6 : Hid (w6.ownsRow w.heap.size 3 1 (.slice (some ⟨k, 0, none⟩) 1 cap) 1 [iv V]) := Lib.hid hr6; have hb6 := (below_one _ (Obj.cells #[.int .i64 V] 3)).trans (((Below.refl _ _).grown hg6 (Nat.le_refl _) (fun k hk => by cases hk)).mono (below_one _ _).size); have HN := Lib.hid (And.intro (HB5.out.1.trans (hb6.mono HB5.out.1.size)) (HB5.out.2.below hb6)); clear hr6 hg6 hb6)
    exact ⟨⟨.inr ⟨rfl, k, cap, rfl, HR6⟩, HN⟩, by simp [intOf]⟩
  ·obtain ⟨x0, x1, x2, x3, _, _, _, _⟩ := HK.out.2
   go_wp2_with (at_builtin; refine appendIn rfl _ _ rfl (n := 1) (vs := [iv V]) HR.out (by have := HK.out.1.size; simpa using this) (by omega) rfl (y := ad) rfl (by simp) ?_; intro k cap w6 hr6 hg6; have HR6 : Hid (w6.ownsRow w.heap.size 3 1 (.slice (some ⟨k, 0, none⟩) 2 cap) 2 [iv V, iv ad] ∧ Below w.heap.size w w6) := Lib.hid ⟨hr6, HK.out.1.grown (grownAlloc hg6) HK.out.1.size (fun k hk => (HR.out.lt k hk).1)⟩; clear hr6 hg6)
   go_ret
   exact ⟨k, cap, rfl, HR6.out⟩
end Go.Proofs.YtlcgfdijohgnpaaGreatDoor
