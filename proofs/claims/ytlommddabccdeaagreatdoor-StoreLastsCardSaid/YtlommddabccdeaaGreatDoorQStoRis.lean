/-
  StoRng, StoRis.
-/
import Derived.Test.YtlommddabccdeaaGreatDoorQStoMap
import Derived.Test.YtlommddabccdeaaGreatDoorQStoPls
import Derived.Shelf.SlSortCmp.NoneTotal
namespace Go.Proofs.YtlommddabccdeaaGreatDoor
open Go.ChangeShapes Go.WideShapes Go.ChangeAt Go.RowKit Go.Maps

def strikeK (left : ByteArray → ByteArray → Bool) (t k : ByteArray) : ByteArray → ByteArray → Bool := fun t' k' => left t' k' && !decide (t' = t ∧ k' = k)
def KRng (w : World) (M r : Nat) (f : ByteArray → ByteArray → Option Value) (left : ByteArray → ByteArray → Bool) (cnt : Nat) : Prop :=
 ∃ D n lf, w.ranges Tryz.prog 66 heldC M r n D lf cnt ∧ Maps.size D = n ∧ (∀ t k : ByteArray, t.size ≤ maxLen → k.size ≤ maxLen → Maps.has D (klit t k) = (f t k).isSome ∧ ∀ v, f t k = some v → ∀ z, D.atKey (klit t k) z = .held v) ∧ ∀ t k : ByteArray, t.size ≤ maxLen → k.size ≤ maxLen → lf (klit t k) = left t k
section
variable {w w' : World} {M r cnt : Nat} {f : ByteArray → ByteArray → Option Value} {left : ByteArray → ByteArray → Bool}
theorem KRng.map (h : KRng w M r f left cnt) : ∃ n, KMap w M n f := by
 obtain ⟨D, n, lf, h1, h2, h3, _⟩ := h
 exact ⟨n, D, h1.owns, h2, h3⟩
theorem KRng.lt (h : KRng w M r f left cnt) : M < w.heap.size ∧ r < w.heap.size := by
 obtain ⟨D, n, lf, h1, _⟩ := h
 exact ⟨h1.owns.lt, h1.lt⟩
theorem KRng.same (h : KRng w M r f left cnt) (hM : w'.heap[M]? = w.heap[M]?) (hr : w'.heap[r]? = w.heap[r]?) : KRng w' M r f left cnt := by
 obtain ⟨D, n, lf, ⟨es, clock, since, seen, c0, a, b, c, d, e, g⟩, h2⟩ := h
 exact ⟨D, n, lf, ⟨es, clock, since, seen, c0, hM.trans a, b, c, d, hr.trans e, g⟩, h2⟩
theorem KRng.ne (h : KRng w M r f left cnt) : r ≠ M := by
 obtain ⟨D, n, lf, h1, _⟩ := h
 exact h1.ne
end
section
variable {w : World} {ops : Array Oper} {rest : List Oper} {o : Oper} {a : Act} {Q : Exit → Act → World → Prop} {M n r cnt : Nat} {f : ByteArray → ByteArray → Option Value} {left : ByteArray → ByteArray → Bool}
theorem wpList_range_k (hg : o.guard = none) (m : Operand) (T e : TypeId) (hop : o.op = Op.range T m) (ht : Tryz.prog.underlying T = some (.map 66 e)) (hm : a.eval m = .map (some M)) (hown : KMap w M n f)
  (hK : ∀ w', KRng w' M w.heap.size f (fun t k => (f t k).isSome) n → Below w.heap.size w w' → w'.heap.size = w.heap.size + 1 → wpList Tryz.prog ops Q rest (a.put o.dst (.pointer (some ⟨w.heap.size, 0, none⟩))) w') :
  wpList Tryz.prog ops Q (o :: rest) a w := by
 refine wpList_plain hg fun K' hK' => ?_
 obtain ⟨D, ho, hn, h3⟩ := hown
 obtain ⟨w', hrun, r1, r2, r3⟩ := ho.range plcKy ht
 unfold Oper.wp
 simp [execOp, hop, hm, hrun, Result.andThen]
 refine hK' _ _ (hK w' ⟨D, n, _, by rw [← hn] at r1 ⊢; exact r1, hn, h3, fun t k h1 h2 => (h3 t k h1 h2).1⟩ ⟨r2.os, r2.tape, r2.output, r2.size, fun i hi => r2.block i hi (by simp)⟩ r3)
set_option maxRecDepth 100000 in
theorem wpList_next_k (hg : o.guard = none) (it : Operand) (hop : o.op = Op.next it false) (hit : a.eval it = .pointer (some ⟨r, 0, none⟩)) (h : KRng w M r f left cnt)
  (hDone : (∀ t k : ByteArray, t.size ≤ maxLen → k.size ≤ maxLen → left t k = false) → wpList Tryz.prog ops Q rest (a.put o.dst (.tuple #[.bool false])) w)
  (hMore : ∀ (t k : ByteArray) (v : Value) (w' : World) (cnt' : Nat), t.size ≤ maxLen → k.size ≤ maxLen → left t k = true → f t k = some v → KRng w' M r f (strikeK left t k) cnt' → cnt' < cnt →
   w.grownBy w' (some r) → (Instr.entry (.pointer (some ⟨r, 0, none⟩))).run Tryz.prog w' = .ok (.tuple #[plcV t k, v]) w' → wpList Tryz.prog ops Q rest (a.put o.dst (.tuple #[.bool true, plcV t k, v])) w') :
  wpList Tryz.prog ops Q (o :: rest) a w := by
 refine wpList_plain hg fun K' hK' => ?_
 obtain ⟨D, n, lf, hr, hn, h3, h4⟩ := h
 unfold Oper.wp
 rcases hr.next plcKy o.type with ⟨h0, hl, hrun⟩ | ⟨key, v, kl, y, w', cnt', hkey, hlk, hv, hat, hrun, hrg, hlt, hgr, hsz, hen⟩
 ·simp [execOp, hop, hit, hrun, Result.andThen]
  exact hK' _ _ (hDone fun t k h1 h2 => by rw [← h4 t k h1 h2]; exact hl _)
 ·obtain ⟨t, k, rfl, rfl, h1, h2⟩ := keyPlc_inv hkey
  simp [execOp, hop, hit, hrun, Result.andThen]
  have hy : y = (.held v, []) := (Option.some.inj hv).symm
  subst hy
  have hf : f t k = some v := by
   obtain ⟨a1, a2⟩ := h3 t k h1 h2
   cases hx : f t k with
   | none =>
    rw [hx] at a1
    have e1 := hat .nil
    rw [Maps.atKey_of_not_has a1] at e1
    cases e1
   | some x =>
    have e1 := (a2 x hx .nil).symm.trans (hat .nil)
    rw [DataW.held.inj e1]
  refine hK' _ _ (hMore t k v w' cnt' h1 h2 (by rw [← h4 t k h1 h2]; exact hlk) hf ⟨D, n, _, hrg, hn, h3, fun t' k' h1' h2' => ?_⟩ hlt hgr hen)
  show (lf (klit t' k') && !(klit t' k').sameKey (klit t k)) = (left t' k' && !decide (t' = t ∧ k' = k))
  rw [h4 t' k' h1' h2']
  congr 2
  by_cases e : t' = t ∧ k' = k
  ·obtain ⟨rfl, rfl⟩ := e
   rw [WideAt.sameKey_self (klit_key _ _)]
   simp
  ·rw [Maps.sameKey_ne fun e2 => e (klit_inj e2 h1' h2' h1 h2)]
   simp [e]
end
/-! At the operation -/
section
variable {w : World} {ops : Array Oper} {rest : List Oper} {o : Oper} {a : Act} {Q : Exit → Act → World → Prop} {M n : Nat} {f : ByteArray → ByteArray → Option Value}
set_option maxRecDepth 100000 in
theorem wpList_look_k (hg : o.guard = none) (m x : Operand) (T e : TypeId) (hop : o.op = Op.lookup T m x false) (ht : Tryz.prog.underlying T = some (.map 66 e)) (z : Value) (hz : (zeroValue e).run Tryz.prog w = .ok z w)
  (hm : a.eval m = .map (some M)) (t k : ByteArray) (hx : a.eval x = plcV t k) (hown : KMap w M n f) (h1 : t.size ≤ maxLen) (h2 : k.size ≤ maxLen) (u : Value) (hu : (f t k).getD z = u) (hK : wpList Tryz.prog ops Q rest (a.put o.dst u) w) : wpList Tryz.prog ops Q (o :: rest) a w := by
 refine wpList_plain hg fun K' hK' => ?_
 have hrun := hown.look ht hz t k h1 h2 hu
 unfold Oper.wp
 simp [execOp, hop, hm, hx, hrun, Result.andThen]
 exact hK' _ _ hK
set_option maxRecDepth 100000 in
theorem wpList_put_k (hg : o.guard = none) (m x v : Operand) (T e : TypeId) (hop : o.op = Op.mapUpdate T m x v) (ht : Tryz.prog.underlying T = some (.map 66 e))
  (hm : a.eval m = .map (some M)) (t k : ByteArray) (hx : a.eval x = plcV t k) (val : Value) (hv : a.eval v = val) (hown : KMap w M n f) (hn : n < maxLen) (h1 : t.size ≤ maxLen) (h2 : k.size ≤ maxLen)
  (hK : ∀ w' n', KMap w' M n' (updK f t k (some val)) → w.grownBy w' (some M) → wpList Tryz.prog ops Q rest (a.put o.dst undef) w') : wpList Tryz.prog ops Q (o :: rest) a w := by
 refine wpList_plain hg fun K' hK' => ?_
 obtain ⟨w', hrun, ⟨n', r1⟩, r2⟩ := hown.put ht hn t k h1 h2 val
 unfold Oper.wp
 simp [execOp, hop, hm, hx, hv, hrun, Result.andThen]
 exact hK' _ _ (hK w' n' r1 r2)
set_option maxRecDepth 100000 in
theorem wpList_drop_k (hg : o.guard = none) (m x : Operand) (T e : TypeId) (hop : o.op = Op.call { callee := Callee.builtin Builtin.delete, args := #[m, x], argTypes := #[T, 66] }) (ht : Tryz.prog.underlying T = some (.map 66 e))
  (hm : a.eval m = .map (some M)) (t k : ByteArray) (hx : a.eval x = plcV t k) (hown : KMap w M n f) (h1 : t.size ≤ maxLen) (h2 : k.size ≤ maxLen)
  (hK : ∀ w' n', KMap w' M n' (updK f t k none) → w.grownBy w' (some M) → wpList Tryz.prog ops Q rest (a.put o.dst (.tuple #[])) w') : wpList Tryz.prog ops Q (o :: rest) a w := by
 refine wpList_plain hg fun K' hK' => ?_
 obtain ⟨w', hrun, ⟨n', r1⟩, r2⟩ := hown.drop ht t k h1 h2 o.type
 unfold Oper.wp
 simp [execOp, hop, resolve, invoke, builtin, hm, hx, hrun, Result.andThen]
 exact hK' _ _ (hK w' n' r1 r2)
set_option maxRecDepth 100000 in
theorem step_drop_k {K : Act → World → Prop} {E : Prop} (hg : o.guard = none) (m x : Operand) (T e : TypeId) (hop : o.op = Op.call { callee := Callee.builtin Builtin.delete, args := #[m, x], argTypes := #[T, 66] }) (ht : Tryz.prog.underlying T = some (.map 66 e))
  (hm : a.eval m = .map (some M)) (t k : ByteArray) (hx : a.eval x = plcV t k) (hown : KMap w M n f) (h1 : t.size ≤ maxLen) (h2 : k.size ≤ maxLen)
  (hK : ∀ w' n', KMap w' M n' (updK f t k none) → w.grownBy w' (some M) → K (a.put o.dst (.tuple #[])) w') : if Region.wanted o (yielded ops a.tmps) = true then Oper.wp Tryz.prog o a w K Q else E := by
 have hw : Region.wanted o (yielded ops a.tmps) = true := by simp [Region.wanted, hg]
 rw [if_pos hw]
 obtain ⟨w', hrun, ⟨n', r1⟩, r2⟩ := hown.drop ht t k h1 h2 o.type
 unfold Oper.wp
 simp [execOp, hop, resolve, invoke, builtin, hm, hx, hrun, Result.andThen]
 exact hK w' n' r1 r2
end
end Go.Proofs.YtlommddabccdeaaGreatDoor

namespace Go.Proofs.YtlommddabccdeaaGreatDoor
open Go.ChangeShapes Go.WideShapes Go.ChangeAt Go.RowKit

theorem KRng.left_eq {w : World} {M r cnt : Nat} {f : ByteArray → ByteArray → Option Value} {left : ByteArray → ByteArray → Bool} (h : KRng w M r f left cnt) : w.rangeLeft M r = cnt := by
 obtain ⟨D, n, lf, h1, _⟩ := h
 exact h1.left_eq
structure RisAt (w wr : World) (M : Nat) (f : ByteArray → ByteArray → Option Value) (v : Value) (acc : List Plc) (cnt : Nat) : Prop where
 rng : ∃ left, KRng wr M w.heap.size f left cnt ∧ ∀ t k : ByteArray, t.size ≤ maxLen → k.size ≤ maxLen → (left t k = true ↔ ((f t k).isSome = true ∧ (t, k) ∉ acc))
 own : OwnQ (w.heap.size + 1) wr v acc
 below : Below w.heap.size w wr
 nd : acc.Nodup
 all : ∀ x ∈ acc, x.1.size ≤ maxLen ∧ x.2.size ≤ maxLen ∧ (f x.1 x.2).isSome = true
 mlt : M < w.heap.size
section
variable {w wr w2 w3 w4 : World} {M cnt cnt2 : Nat} {f : ByteArray → ByteArray → Option Value} {v v' : Value} {acc : List Plc} {t k : ByteArray} {left : ByteArray → ByteArray → Bool}
theorem RisAt.size (h : RisAt w wr M f v acc cnt) : w.heap.size < wr.heap.size := by
 obtain ⟨left, h1, _⟩ := h.rng
 exact h1.lt.2
theorem RisAt.came (h : RisAt w wr M f v acc cnt) (_hr : KRng wr M w.heap.size f left cnt) (hl : ∀ t k : ByteArray, t.size ≤ maxLen → k.size ≤ maxLen → (left t k = true ↔ ((f t k).isSome = true ∧ (t, k) ∉ acc)))
  (h1 : t.size ≤ maxLen) (h2 : k.size ≤ maxLen) (hx : left t k = true) (hk : KRng w2 M w.heap.size f (strikeK left t k) cnt2) (hg : wr.grownBy w2 (some w.heap.size)) :
  OwnQ (w.heap.size + 1) w2 v acc ∧ Below w.heap.size w w2 ∧
  ∀ w3 w4 v', Below w2.heap.size w2 w3 → w3.grownBy w4 v.ownBlock → OwnQ (w.heap.size + 1) w4 v' (acc ++ [(t, k)]) → RisAt w w4 M f v' (acc ++ [(t, k)]) cnt2 := by
 obtain ⟨hf, hna⟩ := (hl t k h1 h2).1 hx
 have ho : OwnQ (w.heap.size + 1) w2 v acc := h.own.kept fun g hg2 => hg.block g (h.own.lt hg2).2 (by have := (h.own.lt hg2).1; simp; omega)
 have hb : Below w.heap.size w w2 := ⟨hg.os.trans h.below.os, hg.tape.trans h.below.tape, hg.output.trans h.below.output, Nat.le_trans h.below.size hg.size, fun i hi => (hg.block i (Nat.lt_of_lt_of_le hi h.below.size) (by simp; omega)).trans (h.below.block i hi)⟩
 refine ⟨ho, hb, fun w3 w4 v' hb3 hg4 ho4 => ?_⟩
 have keep : ∀ i, i < w.heap.size + 1 → i < w2.heap.size → w4.heap[i]? = w2.heap[i]? := fun i hi hi2 => by
  rw [hg4.block i (Nat.lt_of_lt_of_le hi2 hb3.size) (fun e => by have := (ho.lt e.symm).1; omega)]
  exact hb3.block i hi2
 have hlt := hk.lt
 refine ⟨⟨_, hk.same (keep M (by have := h.mlt; omega) hlt.1) (keep _ (by omega) hlt.2), fun t' k' a b => ?_⟩, ho4, ?_, ?_, ?_, h.mlt⟩
 ·unfold strikeK
  rw [Bool.and_eq_true, hl t' k' a b]
  simp only [List.mem_append, List.mem_singleton, Prod.mk.injEq, not_or, Bool.not_eq_true', decide_eq_false_iff_not]
  exact ⟨fun ⟨⟨a1, a2⟩, a3⟩ => ⟨a1, a2, a3⟩, fun ⟨a1, a2, a3⟩ => ⟨⟨a1, a2⟩, a3⟩⟩
 ·exact ⟨(hg4.os.trans hb3.os).trans hb.os, (hg4.tape.trans hb3.tape).trans hb.tape, (hg4.output.trans hb3.output).trans hb.output, Nat.le_trans hb.size (Nat.le_trans hb3.size hg4.size), fun i hi => (keep i (by omega) (Nat.lt_of_lt_of_le hi hb.size)).trans (hb.block i hi)⟩
 ·exact List.nodup_append.2 ⟨h.nd, by simp, fun a ha b hb e => by rw [List.mem_singleton] at hb; rw [hb] at e; exact hna (e ▸ ha)⟩
 ·intro x hx2
  rcases List.mem_append.1 hx2 with h5 | h5
  ·exact h.all x h5
  ·rw [List.mem_singleton.1 h5]; exact ⟨h1, h2, hf⟩
end
theorem sort0_any (fv : Value) (w : World) : Calls Tryz.prog 60 #[.slice none 0 0, fv] w fun e w' => e = .returned (.tuple #[]) ∧ w' = w := by
 have h := AnyF.slices_SortFunc_none Tryz.sortPl none 0 fv w
 change Calls Tryz.prog 60 _ _ _ at h
 exact h
structure RisL (f : ByteArray → ByteArray → Option Value) (L : List Plc) : Prop where
 rise : RisePl L
 small : ∀ x ∈ L, x.1.size ≤ maxLen ∧ x.2.size ≤ maxLen
 is : ∀ t k : ByteArray, t.size ≤ maxLen → k.size ≤ maxLen → ((f t k).isSome = true ↔ (t, k) ∈ L)
set_option maxHeartbeats 1600000 in
set_option maxRecDepth 100000 in
theorem rising_any (w : World) (M n : Nat) (f : ByteArray → ByteArray → Option Value) (B : List Plc) (h : KMap w M n f) (hB : ∀ t k : ByteArray, t.size ≤ maxLen → k.size ≤ maxLen → (f t k).isSome = true → (t, k) ∈ B) (hl : B.length ≤ 1000000) :
  Calls Tryz.prog 38 #[.map (some M)] w fun e w' => ∃ x c L, e = .returned (.slice x L.length c) ∧ PlsAt w' x L ∧ RisL f L ∧ L.length ≤ 1000000 ∧ Below w.heap.size w w' ∧ ∀ g o, x = some ⟨g, o, none⟩ → w.heap.size ≤ g := by
 have HMX : Hid (∀ acc : List Plc, acc.Nodup → (∀ x ∈ acc, x.1.size ≤ maxLen ∧ x.2.size ≤ maxLen ∧ (f x.1 x.2).isSome = true) → acc.length ≤ 1000000) := Lib.hid fun acc hd ha => by
  haveI : DecidableEq Plc := fun a b => Classical.propDecidable (a = b)
  have := sub_len acc B hd (fun x hx => by obtain ⟨a, b, c⟩ := ha x hx; exact hB x.1 x.2 a b c)
  omega
 have HST : Hid (∀ w1, KRng w1 M w.heap.size f (fun t k => (f t k).isSome) n → Below w.heap.size w w1 → RisAt w w1 M f (.slice none 0 0) [] n) := Lib.hid fun w1 hr hb => ⟨⟨_, hr, fun t k _ _ => by simp⟩, OwnQ.nil_ _ _, hb, List.nodup_nil, fun x hx => absurd hx List.not_mem_nil, h.lt⟩
 have HEND : Hid (∀ (acc : List Plc), acc.Nodup → (∀ x ∈ acc, x.1.size ≤ maxLen ∧ x.2.size ≤ maxLen ∧ (f x.1 x.2).isSome = true) → (∀ t k : ByteArray, t.size ≤ maxLen → k.size ≤ maxLen → ¬ ((f t k).isSome = true ∧ (t, k) ∉ acc)) → ∀ l' : List Plc, l'.Perm acc → RisePl l' → RisL f l') := Lib.hid fun acc hd ha hz l' hp hr => by
  refine ⟨hr, fun x hx => ?_, fun t k a b => ⟨fun hf => ?_, fun hx => ?_⟩⟩
  ·obtain ⟨a, b, _⟩ := ha x (hp.mem_iff.1 hx); exact ⟨a, b⟩
  ·rw [hp.mem_iff]
   by_cases hx2 : (t, k) ∈ acc
   ·exact hx2
   ·exact absurd ⟨hf, hx2⟩ (hz t k a b)
  ·exact (ha _ (hp.mem_iff.1 hx)).2.2
 have H := Lib.hid h
 clear h hB hl
 go_enter Tryz.func38, Tryz.ntmps38
 go_wp2_with (first
  | (at_range; refine wpList_range_k rfl _ _ _ rfl Tryz.underlying59 rfl H.out ?_; intro w1 hr1 hb1 hz1)
  | go_in)
 have HR1 := Lib.hid (HST.out w1 hr1 hb1)
 clear hr1 hb1 hz1
 go_frame
 go_loopw [3] (fun v wr => ∃ acc cnt, Hid (RisAt w wr M f v acc cnt)) (fun _ wr => wr.rangeLeft M w.heap.size)
 case atStart => exact ⟨[], n, HR1⟩
 case round =>
  obtain ⟨acc, cnt, HR⟩ := hrel
  obtain ⟨left, hrng, hleft⟩ := HR.out.rng
  have HL := Lib.hid (And.intro hrng hleft)
  clear hleft
  go_wp2_with (first
   | (at_next; refine wpList_next_k rfl _ rfl rfl hrng ?_ ?_)
   | go_in)
  ·intro hl0
   have HZ : Hid (∀ t k : ByteArray, t.size ≤ maxLen → k.size ≤ maxLen → ¬ ((f t k).isSome = true ∧ (t, k) ∉ acc)) := Lib.hid fun t k a b hx => by
    have := (HL.out.2 t k a b).2 hx
    rw [hl0 t k a b] at this; cases this
   have HE := Lib.hid (HEND.out acc HR.out.nd HR.out.all HZ.out)
   have HAL := Lib.hid (HMX.out acc HR.out.nd HR.out.all)
   clear hl0 hrng
   rcases HR.out.own.shape with ⟨rfl, rfl⟩ | ⟨g, cap, rfl, hg, hg2, hc, hf⟩
   ·have HS : Hid (∀ fv W, Calls Tryz.prog 60 #[.slice none 0 0, fv] W fun e w' => e = .returned (.tuple #[]) ∧ w' = W) := Lib.hid fun fv W => sort0_any fv W
    have HLE : Hid (RisL f []) := Lib.hid (HE.out [] (List.Perm.refl _) List.Pairwise.nil)
    go_wp2_with (go_at_call 60; (with_reducible refine (HS.out _ _).mono ?_); rintro e w5 ⟨rfl, rfl⟩)
    go_ret
    exact ⟨none, 0, [], rfl, PlsAt.nil_ _ _, HLE.out, Nat.zero_le _, HR.out.below, fun g o e => by cases e⟩
   ·have HS := Lib.hid (sortQ_any wr g cap acc HR.out.nd hc hf hg2 (by have := HAL.out; omega))
    have HG := Lib.hid hg
    clear hg hg2 hc hf
    go_wp2_with (go_at_call 60; refine HS.out.mono ?_; rintro e w5 ⟨rfl, l', hp, hr, hpl, hu⟩; have H5 := Lib.hid (And.intro hp (And.intro hr (And.intro hpl hu))); clear hp hr hpl hu)
    go_ret
    obtain ⟨hp, hr, hpl, hu⟩ := H5.out
    refine ⟨some ⟨g, 0, none⟩, cap, l', by rw [hp.length_eq]; rfl, hpl, HE.out l' hp hr, by rw [hp.length_eq]; exact HAL.out, ?_, fun g o e => by have := HG.out; injection e with e; injection e with e; omega⟩
    have hb := HR.out.below
    exact ⟨hu.os.trans hb.os, hu.tape.trans hb.tape, hu.output.trans hb.output, Nat.le_trans hb.size hu.size, fun i hi => (hu.block i (Nat.lt_of_lt_of_le hi hb.size) (fun hx => by have := HG.out; rw [List.mem_singleton] at hx; omega)).trans (hb.block i hi)⟩
  ·intro t k u w2 cnt2 h1 h2 hx hu hk2 hlt hg2 hen
   have HCM := Lib.hid (HR.out.came hrng HL.out.2 h1 h2 hx hk2 hg2)
   have HAL := Lib.hid (HMX.out acc HR.out.nd HR.out.all)
   have HLT : Hid (cnt2 < cnt ∧ wr.rangeLeft M w.heap.size = cnt) := Lib.hid ⟨hlt, hrng.left_eq⟩
   have HSZ : Hid (w.heap.size + 1 ≤ w2.heap.size) := Lib.hid (by have := hk2.lt.2; omega)
   clear hlt hg2 hk2 hu hx hrng
   have HO : Hid (OwnQ (w.heap.size + 1) (w2.alloc (Obj.cells #[.string t, .string k] 66)) _ acc) := Lib.hid (HCM.out.1.kept fun g hg => heap_alloc_old _ _ (HCM.out.1.lt hg).2)
   have HS3 : Hid (w.heap.size + 1 ≤ (w2.alloc (Obj.cells #[.string t, .string k] 66)).heap.size) := Lib.hid (by have := HSZ.out; simp; omega)
   have HB3 : Hid (Below w2.heap.size w2 ((w2.alloc (Obj.cells #[.string t, .string k] 66)).alloc (Obj.cells #[.string t, .string k] 66))) := Lib.hid (((Below.refl _ w2).alloc (Nat.le_refl _) _).alloc (by simp) _)
   unfold plcV at hen ⊢
   go_wp2_with (first
    | (at_builtin; refine appendQ rfl _ _ rfl HO.out HS3.out (by have := HAL.out; omega) rfl rfl (by simp) ?_; intro y cap w4 ho4 hg4; have HF := Lib.hid (HCM.out.2.2 _ _ _ HB3.out hg4 ho4); clear ho4 hg4)
    | go_in)
   go_roundw
   case rel => exact ⟨_, cnt2, HF⟩
   case measure =>
    obtain ⟨left2, hk3, _⟩ := HF.out.rng
    rw [hk3.left_eq, HLT.out.2]; exact HLT.out.1
end Go.Proofs.YtlommddabccdeaaGreatDoor
