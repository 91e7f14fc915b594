/-
  RefsWeigh, LayAll2, RefsLaw2, LawKit, RefsLaid.
-/
import Derived.Test.YtopghlnoklajkaaGreatDoorQRefsLaw0
import Derived.Test.YtopghlnoklajkaaGreatDoorQKeyRow
import Derived.Test.YtopghlnoklajkaaGreatDoorQSetOwn
import Derived.Deep.RegionHeld3
import Derived.Test.YtopghlnoklajkaaGreatDoorQLayAll
import Derived.Test.YtopghlnoklajkaaGreatDoorQRefsLaw1
import Derived.Test.YtopghlnoklajkaaGreatDoorQRowOps
import Derived.Test.YtopghlnoklajkaaGreatDoorQValueLib
import Derived.LaidMore
import Derived.Lib.LaidTab
import Derived.Stop.Joined
import Derived.Stop.LaidErr
import Derived.Lay
import Derived.HandedShaped
import Derived.Test.YtopghlnoklajkaaGreatDoorQValuePrint
namespace Go.Proofs.YtopghlnoklajkaaGreatDoor
open Go.ChangeShapes Go.WideShapes Go.ChangeAt Go.RowKit

structure PutV where
 at_ : Int
 from_ : Int
 text : ByteArray
def PutsAt (w : World) (x : Option Addr) (ps : List PutV) : Prop := ∀ k (h : k < ps.length), ∃ b off, x = some ⟨b, off, none⟩ ∧ b < w.heap.size ∧ w.cell? ⟨b, off + k * 3, none⟩ = some (.int .i64 ps[k].at_) ∧ w.cell? ⟨b, off + k * 3 + 1, none⟩ = some (.int .i64 ps[k].from_) ∧ w.cell? ⟨b, off + k * 3 + 2, none⟩ = some (.string ps[k].text)
theorem PutsAt.below {w w' : World} {x : Option Addr} {ps : List PutV} (h : PutsAt w x ps) (hb : Below w.heap.size w w') : PutsAt w' x ps := fun k hk => by
 obtain ⟨b, off, e, hl, c0, c1, c2⟩ := h k hk
 exact ⟨b, off, e, Nat.lt_of_lt_of_le hl hb.size, (hb.cell (p := ⟨b, _, none⟩) hl).trans c0, (hb.cell (p := ⟨b, _, none⟩) hl).trans c1, (hb.cell (p := ⟨b, _, none⟩) hl).trans c2⟩
def wKeyR (k : KeyV) : Nat := k.name.size + 300 + k.dflt.size + k.letter.size
def wKR (ls : List KeyV) : Nat := (ls.map wKeyR).sum
def wPR (ps : List PutV) : Nat := (ps.map fun p => 300 + p.text.size).sum
theorem wKR_snoc (ls : List KeyV) (l : KeyV) : wKR (ls ++ [l]) = wKR ls + wKeyR l := by unfold wKR; simp
theorem wPR_snoc (ls : List PutV) (l : PutV) : wPR (ls ++ [l]) = wPR ls + (300 + l.text.size) := by unfold wPR; simp
theorem wKR_take (ls : List KeyV) (k : Nat) : wKR (ls.take k) ≤ wKR ls := by
 conv => rhs; rw [← List.take_append_drop k ls]
 unfold wKR
 rw [List.map_append, List.sum_append]; omega
theorem wPR_take (ls : List PutV) (k : Nat) : wPR (ls.take k) ≤ wPR ls := by
 conv => rhs; rw [← List.take_append_drop k ls]
 unfold wPR
 rw [List.map_append, List.sum_append]; omega
theorem sum_mem {α : Type} {f : α → Nat} {ls : List α} {l : α} (h : l ∈ ls) : f l ≤ (ls.map f).sum := by
 induction ls with
 | nil => cases h
 | cons a r ih =>
  rw [List.map_cons, List.sum_cons]
  rcases List.mem_cons.1 h with rfl | h
  ·omega
  ·have := ih h; omega
theorem len_sum {α : Type} {f : α → Nat} {c : Nat} (ls : List α) (h : ∀ l ∈ ls, c ≤ f l) : ls.length * c ≤ (ls.map f).sum := by
 induction ls with
 | nil => simp
 | cons a r ih =>
  rw [List.map_cons, List.sum_cons, List.length_cons, Nat.add_mul]
  have := ih fun l hl => h l (List.mem_cons_of_mem _ hl)
  have := h a List.mem_cons_self
  omega
def capR (n : Nat) : Int := min (n : Int) 2147483648
theorem wkeyR_step {n a d l : Nat} : addJ (capR n) (addJ (addJ a 300) (addJ d l)) = capR (n + (a + 300 + d + l)) := by
 unfold capR
 rw [addJ_cap (n := (a : Int)) (m := 300), addJ_cap (n := (d : Int)), addJ_cap (n := min ((a : Int) + 300) 2147483648), addJ_cap]
 omega
theorem wputR_step {n a : Nat} : addJ (capR n) (addJ 300 a) = capR (n + (300 + a)) := by
 unfold capR
 rw [addJ_cap (n := 300) (m := (a : Int)), addJ_cap]
 omega
set_option maxHeartbeats 3200000 in
set_option maxRecDepth 100000 in
theorem rweight_any (x y : Option Addr) (c d : Nat) (ls : List KeyV) (ps : List PutV) (w : World) (h : KeysAt w x ls) (hn : ls.length ≤ maxLen) (hz : ∀ l ∈ ls, l.name.size ≤ maxLen ∧ l.dflt.size ≤ maxLen ∧ l.letter.size ≤ maxLen)
  (hp : PutsAt w y ps) (hpn : ps.length ≤ maxLen) (hpz : ∀ p ∈ ps, p.text.size ≤ maxLen) :
  Calls Tryz.prog 12 #[.slice x ls.length c, .slice y ps.length d] w fun e w' => e = .returned (.int .i64 (capR (wKR ls + wPR ps))) ∧ Below w.heap.size w w' := by
 have HL := Lib.hid h
 have HZ := Lib.hid hz
 have HPL := Lib.hid hp
 have HPZ := Lib.hid hpz
 unfold maxLen at hn hpn
 obtain ⟨n, hn'⟩ : ∃ n, ls.length = n := ⟨_, rfl⟩
 obtain ⟨n2, hn2'⟩ : ∃ n, ps.length = n := ⟨_, rfl⟩
 have HN := Lib.hid (And.intro hn' hn2')
 rw [hn'] at hn ⊢
 rw [hn2'] at hpn ⊢
 have H0 : Hid ((0 : Int) = capR (wKR (ls.take 0))) := Lib.hid (by rw [List.take_zero]; show (0 : Int) = min ((0 : Nat) : Int) 2147483648; omega)
 obtain ⟨R, hR⟩ : ∃ R, capR (wKR ls + wPR ps) = R := ⟨_, rfl⟩
 have HR := Lib.hid hR
 rw [hR]
 clear h hz hn' hp hpz hn2' hR
 go_enter Tryz.func12, Tryz.ntmps12
 go_wp2
 go_loopw [5, 6] (fun r i wr => ∃ (t : Nat) (m : Int), r = .int .i64 m ∧ i = .int .i64 t ∧ t ≤ n ∧ 0 ≤ m ∧ m ≤ 2147483648 ∧ Hid (m = capR (wKR (ls.take t))) ∧ Hid (Below w.heap.size w wr)) (fun _ i _ => n - (intOf i).toNat)
 case atStart => exact ⟨0, 0, rfl, rfl, by omega, by omega, by omega, H0, Lib.hid (Below.refl _ _)⟩
 case round =>
  clear H0
  obtain ⟨t, m, rfl, rfl, ht, hm0, hm1, HM, HW⟩ := hrel
  by_cases hlt : t < n ∧ m ≤ 2147483647
  ·obtain ⟨hlt, hmb⟩ := hlt
   have q2 : (0 : Int) ≤ t := by omega
   have q3 : (t : Int) < n := by omega
   have htx : t < ls.length := by rw [HN.out.1]; exact hlt
   obtain ⟨bx, off, hxe, hxl, c0, c1, c2, c3, c4, c5⟩ := (HL.out.below HW.out) t htx
   have HTK := Lib.hid (List.take_succ_eq_append_getElem htx)
   have hzz := HZ.out _ (List.getElem_mem htx)
   generalize ls[t] = l at c0 c1 c2 c3 c4 c5 HTK hzz
   obtain ⟨nm, kd, dl, la, lb, le⟩ := l
   simp only at c0 c1 c2 c3 c4 c5 hzz
   unfold maxLen at hzz
   obtain ⟨z1, z2, z3⟩ := hzz
   have HS : Hid (addJ m (addJ (addJ nm.size 300) (addJ dl.size le.size)) = capR (wKR (ls.take (t + 1)))) := Lib.hid (by rw [HM.out, HTK.out, wKR_snoc]; exact wkeyR_step)
   have hA1 := addJ_in (n := nm.size) (m := 300) (by omega) (by omega)
   have hA2 := addJ_in (n := dl.size) (m := le.size) (by omega) (by omega)
   have hA3 := addJ_in (n := addJ nm.size 300) (m := addJ dl.size le.size) hA1.1 hA2.1
   have hA4 := addJ_in (n := m) (m := addJ (addJ nm.size 300) (addJ dl.size le.size)) hm0 hA3.1
   have HD := Lib.hid (HW.out.trans ((below_drewN wr 1).mono HW.out.size))
   subst hxe
   clear c1 c3 c4 htx
   go_wp2
   go_region_held3 (fun w' => w'.cell? ⟨bx, off + t * 6, none⟩ = some (.string nm) ∧ w'.cell? ⟨bx, off + t * 6 + 2, none⟩ = some (.string dl) ∧ w'.cell? ⟨bx, off + t * 6 + 5, none⟩ = some (.string le)) (first | exact ⟨c0, c2, c5⟩)
    (first | (go_at_call 7; (with_reducible refine (radd_any _ _ _ (by omega) (by omega) (by omega) (by omega)).mono ?_); rintro e w' ⟨rfl, rfl⟩))
   all_goals
    go_wp2
    go_roundw
    case rel => exact ⟨t + 1, _, rfl, by go_num, by omega, hA4.1, hA4.2, HS, HD⟩
    case measure => simp [intOf]; omega
  ·have HE : Hid (m = capR (wKR ls + wPR (ps.take 0))) := Lib.hid (by
    rw [List.take_zero]
    have h1 := HM.out
    have h2 := wKR_take ls t
    show m = capR (wKR ls + 0)
    by_cases hlt2 : t < n
    ·unfold capR at h1 ⊢
     omega
    ·rw [List.take_of_length_le (by rw [HN.out.1]; omega)] at h1
     exact h1)
   have hor : (¬ (t : Int) < n) ∨ ((t : Int) < n ∧ ¬ m ≤ 2147483647) := by omega
   clear HM hlt
   obtain ⟨w1, hw1⟩ : ∃ w1, w1 = wr := ⟨_, rfl⟩
   subst hw1
   rcases hor with q3 | ⟨q3, q4⟩
   all_goals
    go_wp2
    go_loopw [5, 7] (fun r i wq => ∃ (u : Nat) (m : Int), r = .int .i64 m ∧ i = .int .i64 u ∧ u ≤ n2 ∧ 0 ≤ m ∧ m ≤ 2147483648 ∧ Hid (m = capR (wKR ls + wPR (ps.take u))) ∧ Hid (Below w.heap.size w wq)) (fun _ i _ => n2 - (intOf i).toNat)
    case atStart => exact ⟨0, m, rfl, rfl, by omega, hm0, hm1, HE, HW⟩
    case round =>
     clear HE HW q3
     obtain ⟨u, m, rfl, rfl, hu, hm0, hm1, HM, HW⟩ := hrel
     by_cases hlt : u < n2 ∧ m ≤ 2147483647
     ·obtain ⟨hlt, hmb⟩ := hlt
      have q2 : (0 : Int) ≤ u := by omega
      have q3 : (u : Int) < n2 := by omega
      have hux : u < ps.length := by rw [HN.out.2]; exact hlt
      obtain ⟨by_, off, hye, hyl, c0, c1, c2⟩ := (HPL.out.below HW.out) u hux
      have HTK := Lib.hid (List.take_succ_eq_append_getElem hux)
      have hzz := HPZ.out _ (List.getElem_mem hux)
      generalize ps[u] = p at c0 c1 c2 HTK hzz
      obtain ⟨pa, pf, pt⟩ := p
      simp only at c0 c1 c2 hzz
      unfold maxLen at hzz
      have HS : Hid (addJ m (addJ 300 pt.size) = capR (wKR ls + wPR (ps.take (u + 1)))) := Lib.hid (by rw [HM.out, HTK.out, wPR_snoc, ← Nat.add_assoc]; exact wputR_step)
      have hA3 := addJ_in (n := 300) (m := pt.size) (by omega) (by omega)
      have hA4 := addJ_in (n := m) (m := addJ 300 pt.size) hm0 hA3.1
      have HA1 : Hid (∀ W, Calls Tryz.prog 7 #[.int .i64 300, .int .i64 pt.size] W fun e w' => e = .returned (.int .i64 (addJ 300 pt.size)) ∧ W = w') := Lib.hid fun W => radd_any _ _ W (by omega) (by omega) (by omega) (by omega)
      have HA2 : Hid (∀ W, Calls Tryz.prog 7 #[.int .i64 m, .int .i64 (addJ 300 pt.size)] W fun e w' => e = .returned (.int .i64 (addJ m (addJ 300 pt.size))) ∧ W = w') := Lib.hid fun W => radd_any _ _ W (by omega) (by omega) (by omega) (by omega)
      subst hye
      clear c0 c1 hux
      go_wp2_with fail
      refine (HA1.out _).mono ?_
      rintro e w2 ⟨rfl, rfl⟩
      go_wp2_with fail
      refine (HA2.out _).mono ?_
      rintro e w2 ⟨rfl, rfl⟩
      go_wp2
      go_roundw
      case rel => exact ⟨u + 1, _, rfl, by go_num, by omega, hA4.1, hA4.2, HS, HW⟩
      case measure => simp [intOf]; omega
     ·have HE : Hid (m = R) := Lib.hid (by
       rw [← HR.out]
       have h1 := HM.out
       have h2 := wPR_take ps u
       by_cases hlt2 : u < n2
       ·unfold capR at h1 ⊢
        omega
       ·rw [List.take_of_length_le (by rw [HN.out.2]; omega)] at h1
        exact h1)
      have hor : (¬ (u : Int) < n2) ∨ ((u : Int) < n2 ∧ ¬ m ≤ 2147483647) := by omega
      rcases hor with q3 | ⟨q3, q4⟩
      all_goals
       go_wp2
       go_ret
       exact ⟨by rw [HE.out]; first | done | rfl, HW.out⟩
end Go.Proofs.YtopghlnoklajkaaGreatDoor

namespace Go.Proofs.YtopghlnoklajkaaGreatDoor
open Go.ChangeShapes Go.WideShapes Go.ChangeAt Go.RowKit

def NewW (B : Nat) (ms : List SetM) : Prop := ∀ m ∈ ms, ∀ b off, 0 < m.x.val.words.length → m.a = some ⟨b, off, none⟩ → B ≤ b
theorem NewW.zero (B n : Nat) : NewW B (List.replicate n zS) := fun m hm b off hp e => by
 rw [List.eq_of_mem_replicate hm] at hp
 exact absurd hp (by decide)
theorem NewW.set {B k : Nat} {ms : List SetM} {m : SetM} (h : NewW B ms) (_hk : True) (hm : ∀ b off, 0 < m.x.val.words.length → m.a = some ⟨b, off, none⟩ → B ≤ b) : NewW B (ms.set k m) := fun m0 h0 b off hp e => by
 rcases List.mem_or_eq_of_mem_set h0 with h0 | rfl
 ·exact h m0 h0 b off hp e
 ·exact hm b off hp e
end Go.Proofs.YtopghlnoklajkaaGreatDoor

namespace Go.Proofs.YtopghlnoklajkaaGreatDoor
open Go.ChangeShapes Go.WideShapes Go.ChangeAt Go.RowKit

def SRd (w : World) (x : Option Addr) (ls : List SetM) : Prop := ∀ k (h : k < ls.length), ∃ b off, x = some ⟨b, off, none⟩ ∧ b < w.heap.size ∧ (∀ j, j < 6 → w.cell? ⟨b, off + k * 6 + j, none⟩ = (sCells ls[k])[j]?) ∧ TxAt w ls[k].a ls[k].x.val.words
theorem SRd.below {w w' : World} {x : Option Addr} {ls : List SetM} (h : SRd w x ls) (hb : Below w.heap.size w w') : SRd w' x ls := fun k hk => by
 obtain ⟨b, off, e, hl, hc, ht⟩ := h k hk
 exact ⟨b, off, e, Nat.lt_of_lt_of_le hl hb.size, fun j hj => (hb.cell (p := ⟨b, _, none⟩) hl).trans (hc j hj), ht.below hb⟩
theorem SetsAt.one {B g n c : Nat} {w : World} {ls : List SetM} (h : SetsAt B w (.slice (some ⟨g, 0, none⟩) n c) ls) {i : Nat} (hi : i < ls.length) : SRd w (some ⟨g, i * 6, none⟩) [ls[i]] := fun k hk => by
 obtain rfl : k = 0 := by simpa using hk
 obtain ⟨b, c', e, hl, hcs⟩ := h.cells hi
 injection e with e _ _
 injection e with e
 injection e with e _ _
 subst e
 exact ⟨g, i * 6, rfl, hl, fun j hj => by rw [Nat.zero_mul, Nat.add_zero]; exact hcs j hj, (h.wds _ (List.getElem_mem hi)).1⟩
end Go.Proofs.YtopghlnoklajkaaGreatDoor

namespace Go.Proofs.YtopghlnoklajkaaGreatDoor
open Go.ChangeShapes Go.WideShapes Go.ChangeAt Go.RowKit

theorem own : ownKnob Tryz.prog.godebug = none := by kernel_rfl
theorem laidOut : laidOutB Tryz.prog = true := by kernel_rfl
def tabOf (q : Nat) : List Int := (List.range 32).map fun i : Nat => cls (32 * q + i)
theorem tab_at (q i : Nat) (hi : i < 32) : (tabOf q).getD i 0 = cls (32 * q + i) := by
 simp [tabOf, List.getD, hi]
theorem cells1 : Tryz.prog.cellsOf 5 = 1 := by kernel_rfl
theorem cells32 : Tryz.prog.cellsOf 181 = 32 := by kernel_rfl
theorem cellsUnit : Tryz.prog.cellsOf 177 = 3 := by kernel_rfl
theorem cellsUnits : Tryz.prog.cellsOf 194 = 24 := by kernel_rfl

section
variable {H : Type} {enc : TypeId × Value → H} {w : World} {base : Nat} {sp : Nat → Bool} {held : Bool} {fuel : Nat}
set_option maxRecDepth 100000 in
theorem unit_cells {l : List Value} {a b : Int} {s : List UInt8} {q : List MemPlace} (h : DataW.trod enc Tryz.prog w base sp held fuel 177 l = some (.agg [.lit (.int .i64 a), .lit (.string s), .lit (.int .i64 b)], q)) : l = [.int .i64 a, .string ⟨s.toArray⟩, .int .i64 b] := by
 obtain ⟨xs, m, _, hx, hlen, hxl, hf⟩ := DataW.trod_struct Tryz.underlying177 h
 rw [cellsUnit] at hlen
 have hm : xs.map (·.1) = [.lit (.int .i64 a), .lit (.string s), .lit (.int .i64 b)] := by
  have := congrArg Prod.fst hx; simpa using this.symm
 match l, hlen with
 | [v0, v1, v2], _ =>
  have f0 := hf 0 _ rfl
  have f1 := hf 1 _ rfl
  have f2 := hf 2 _ rfl
  match xs, hm with
  | [x0, x1, x2], hm =>
   simp only [List.map_cons, List.map_nil, List.cons.injEq, and_true] at hm
   obtain ⟨m0, m1, m2⟩ := hm
   obtain ⟨n0, e0, r0, _⟩ := DataW.trod_int Tryz.underlying3 (show DataW.trod enc Tryz.prog w base sp held m 3 [v0] = some x0 from f0)
   obtain ⟨s1, e1, r1, _⟩ := DataW.trod_string Tryz.underlying9 (show DataW.trod enc Tryz.prog w base sp held m 9 [v1] = some x1 from f1)
   obtain ⟨n2, e2, r2, _⟩ := DataW.trod_int Tryz.underlying3 (show DataW.trod enc Tryz.prog w base sp held m 3 [v2] = some x2 from f2)
   rw [r0] at m0; rw [r1] at m1; rw [r2] at m2
   simp only [DataW.lit.injEq, Lit.int.injEq, Lit.string.injEq, true_and] at m0 m1 m2
   simp only [List.cons.injEq, and_true] at e0 e1 e2
   subst e0 e1 e2 m0 m2
   rw [← m1]
set_option maxRecDepth 100000 in
theorem units_cells {cs : List Value} {p : List MemPlace} (h : DataW.trod enc Tryz.prog w base sp held fuel 194 cs = some (Rows.laid_tinderbox_value_units, p)) : cs = unitCells := by
 obtain ⟨xs, m, _, hx, hlen, hxl, hi⟩ := DataW.trod_array Tryz.underlying194 h
 rw [cellsUnits] at hlen
 rw [cellsUnit] at hi
 have hm : xs.map (·.1) = [.agg [.lit (.int .i64 3), .lit (.string []), .lit (.int .i64 1)], .agg [.lit (.int .i64 3), .lit (.string [107]), .lit (.int .i64 1024)], .agg [.lit (.int .i64 3), .lit (.string [109]), .lit (.int .i64 1048576)], .agg [.lit (.int .i64 3), .lit (.string [103]), .lit (.int .i64 1073741824)], .agg [.lit (.int .i64 4), .lit (.string [115]), .lit (.int .i64 1)], .agg [.lit (.int .i64 4), .lit (.string [109]), .lit (.int .i64 60)], .agg [.lit (.int .i64 4), .lit (.string [104]), .lit (.int .i64 3600)], .agg [.lit (.int .i64 4), .lit (.string [100]), .lit (.int .i64 86400)]] := by
  have := congrArg Prod.fst hx
  simpa [Rows.laid_tinderbox_value_units] using this.symm
 have hrow : ∀ i, i < 8 → (cs.drop (i * 3)).take 3 = (unitCells.drop (i * 3)).take 3 := by
  intro i hi8
  have hh := hi i hi8
  have hx2 : ∀ (d : DataW H), (xs.map (·.1))[i]? = some d → ∃ q, xs[i]? = some (d, q) := by
   intro d hd
   rw [List.getElem?_map] at hd
   obtain ⟨y, hy, rfl⟩ := Option.map_eq_some_iff.1 hd
   exact ⟨y.2, hy⟩
  rw [hm] at hx2
  have h8 : i = 0 ∨ i = 1 ∨ i = 2 ∨ i = 3 ∨ i = 4 ∨ i = 5 ∨ i = 6 ∨ i = 7 := by omega
  rcases h8 with rfl | rfl | rfl | rfl | rfl | rfl | rfl | rfl
  all_goals
   obtain ⟨q, hq⟩ := hx2 _ rfl
   rw [hq] at hh
   rw [unit_cells hh]; rfl
 apply List.ext_getElem?
 intro j
 by_cases hj : j < 24
 ·have h1 := congrArg (·[j % 3]?) (hrow (j / 3) (by omega))
  simp only [List.getElem?_take, List.getElem?_drop] at h1
  rw [if_pos (by omega), if_pos (by omega), show j / 3 * 3 + j % 3 = j by omega] at h1
  exact h1
 ·rw [List.getElem?_eq_none (by omega), List.getElem?_eq_none (by show unitCells.length ≤ j; have : unitCells.length = 24 := rfl; omega)]
end

theorem heap_of_var {W : World} {n : String} {g : Nat} {cs : Array Value} (hg : Tryz.prog.globalNamed n = some g) (h : W.var? Tryz.prog n = some cs) : ∃ t fr, W.heap[g]? = some (.cells cs t fr) := by
 unfold World.var? at h
 rw [hg] at h
 simp only [Option.bind_some] at h
 split at h
 ·rename_i c t fr hh
  obtain rfl := Option.some.inj h
  exact ⟨t, fr, hh⟩
 ·cases h
theorem maxI_of_shaped {W : World} (h : W.ShapedOpen Tryz.prog) : MaxI W :=
 Go.Proofs.cell_of_shapedOpen_int (zero := #[.int .i64 0]) (t := 3) h (of_decide_eq_true (by kernel_rfl)) (by kernel_rfl) rfl (by kernel_rfl) (by kernel_rfl) Tryz.underlying3

theorem handed_both {H : Type} {enc : TypeId × Value → H} {a : Assume} {C : Checked} {os : Os} {f : FuncId} {fn : Func} {s : ChangeSpec} {conds : List PathCond} {apart fresh handsOn again : Bool} {X : World → Array Value → Prop}
  (hX : ∀ (w w' : World) (args : Array Value), w.heap = w'.heap → X w args → X w' args)
  (own : ownKnob C.prog.godebug = none) (started : os.Started) (noInit : C.prog.inits.idxOf? f = none) (hfn : C.prog.funcs[f]? = some fn)
  (witness : ∃ (w : World) (tape : Tape) (i : Input), w.os = os ∧ (w.forCall tape i).Shaped C.prog ∧ i.vars = [] ∧ Input.okWide C.prog (w.forCall tape i) .any w.heap.size f i ∧
   ((s.pre enc C.prog fn conds apart (w.forCall tape i).memory i.args ∧ X (w.forCall tape i).memory i.args) ∧ sizedMet enc C.prog fn (OpenSpec.ofChange s) apart (w.forCall tape i).memory i.args) ∧ a.holds C.prog (lone (Frame.enter C.prog f i.args .normal) [] (w.forCall tape i)))
  (contract : ∀ (W : World) (base : Nat) (args : Array Value) (ds gs : List (DataW H)) (before : List MemPlace),
   (∀ (j : Nat) t v, fn.params[j]? = some t → args[j]? = some v → Value.okWide C.prog W .any base t v) →
   DataW.Whole enc C.prog fn.params.toList s.vars apart W args.toList ds gs before → X W args → W.ShapedOpen C.prog →
   Calls C.prog f args W fun e W' => ∃ v, e = .returned v ∧ s.post enc C.prog fn apart fresh handsOn again W args v W') :
  ReturnsInHanded a C os f .any (fun w args => (s.pre enc C.prog fn conds apart w args ∧ X w args) ∧ sizedMet enc C.prog fn (OpenSpec.ofChange s) apart w args) (s.post enc C.prog fn apart fresh handsOn again) := by
 refine returnsInHanded_of_calls own started noInit witness ?_
 intro w tape i _ hsh _ hok hpre _
 obtain ⟨_, _, _, fn', hfn', _, _, _, _, hval⟩ := hok
 have e : fn' = fn := Option.some.inj (hfn'.symm.trans hfn)
 subst e
 obtain ⟨⟨⟨ds, gs, before, hw, _⟩, hx⟩, _⟩ := hpre
 have hw' := DataW.Whole.of_heap (w' := w.forCall tape i) (by rfl) hw
 refine (contract (w.forCall tape i) w.heap.size i.args ds gs before hval hw' (hX _ _ _ (by rfl) hx) hsh).mono fun e W' ⟨v, he, hp⟩ => ?_
 subst he
 exact ChangeSpec.post_blind hp

section
variable {H : Type} {enc : TypeId × Value → H} {P : Program}
theorem lawPost {f : Func} {s : ChangeSpec} {apart fresh handsOn : Bool} {W W' : World} {args : Array Value} {v : Value} {ds gs : List (DataW H)} {before pa pv : List MemPlace}
  (hW : DataW.Whole enc P f.params.toList s.vars apart W args.toList ds gs before)
  (hres : ∀ (b : Nat) (sp : Nat → Bool) (hd : Bool), DataW.TrodAll enc P W' b sp hd f.resultTypes.toList (v.resultList f.resultTypes.size) (s.fn H (ds ++ gs)).results [])
  (hargs : DataW.TrodAll enc P W' 0 (fun b => decide (b < W.heap.size)) true f.params.toList args.toList (s.fn H (ds ++ gs)).args pa)
  (hvars : ∀ sp : Nat → Bool, (∀ p ∈ before, sp p.block = true) → DataW.TrodVars enc P W' sp s.vars (s.fn H (ds ++ gs)).vars pv)
  (hb : Below W.heap.size W W') : s.post enc P f apart fresh handsOn false W args v W' := by
 have hold : ∀ p ∈ before, (fun b => decide (b < W.heap.size)) p.block = true := fun p hp => by simpa using hW.lt p hp
 exact ⟨ds, gs, before, [], pa, pv, hW, hres _ _ _, hargs, hvars _ hold, hb.frame _, fun h => by cases h⟩
end
end Go.Proofs.YtopghlnoklajkaaGreatDoor

namespace Go.Proofs.YtopghlnoklajkaaGreatDoor
open Go.ChangeShapes Go.WideShapes Go.ChangeAt Go.RowKit

theorem cells64R : Tryz.prog.cellsOf 210 = 1 := by kernel_rfl
theorem cells20R : Tryz.prog.cellsOf 218 = 20 := by kernel_rfl
def nmRefsLaid (i : Nat) : String := ((Rows.refsNamesRow.laid.map Prod.fst)[i]?).getD default
def laidLRefsLaid : List (String × DataW Unit) := [(nmRefsLaid 0, Rows.laid_math_bits_deBruijn32tab), (nmRefsLaid 1, Rows.laid_math_bits_deBruijn64tab), (nmRefsLaid 2, Lib.tabData .u64 Lib.pow10Tab), (nmRefsLaid 3, Rows.laid_unicode_utf8_acceptRanges), (nmRefsLaid 4, (Lib.tabData .u8 (tabOf 0))), (nmRefsLaid 5, (Lib.tabData .u8 (tabOf 1))), (nmRefsLaid 6, (Lib.tabData .u8 (tabOf 2))), (nmRefsLaid 7, (Lib.tabData .u8 (tabOf 3))), (nmRefsLaid 8, Rows.laid_tinderbox_value_units), (nmRefsLaid 9, Rows.laid_unicode_utf8_first)]
theorem laid_isRefsLaid : Rows.refsNamesRow.laid = laidLRefsLaid := by kernel_rfl
set_option maxRecDepth 100000 in
theorem stdRefsLaid {W : World} (h : laidMetH Tryz.prog Rows.refsNamesRow.laid W) (hsh : W.ShapedOpen Tryz.prog) : Std W := by
 rw [MakeChecks.laidMetH_plain _ _ _ (by kernel_rfl), laid_isRefsLaid] at h
 have h1 := laidMet.tail (h : laidMet Tryz.prog (_ :: _) W)
 have h2 := laidMet.tail (h1 : laidMet Tryz.prog (_ :: _) W)
 have h3 := laidMet.tail (h2 : laidMet Tryz.prog (_ :: _) W)
 have h4 := laidMet.tail (h3 : laidMet Tryz.prog (_ :: _) W)
 have h5 := laidMet.tail (h4 : laidMet Tryz.prog (_ :: _) W)
 have h6 := laidMet.tail (h5 : laidMet Tryz.prog (_ :: _) W)
 have h7 := laidMet.tail (h6 : laidMet Tryz.prog (_ :: _) W)
 have h8 := laidMet.tail (h7 : laidMet Tryz.prog (_ :: _) W)
 have hp := Lib.tabIs_of_head (g := 6) (t := 218) (by kernel_rfl) (by kernel_rfl) Tryz.underlying218 Tryz.underlying210 cells64R cells20R h2
 have t0 := Lib.tabIs_of_head (g := 0) (t := 181) (by kernel_rfl) (by kernel_rfl) Tryz.underlying181 Tryz.underlying5 cells1 cells32 h4
 have t1 := Lib.tabIs_of_head (g := 1) (t := 181) (by kernel_rfl) (by kernel_rfl) Tryz.underlying181 Tryz.underlying5 cells1 cells32 h5
 have t2 := Lib.tabIs_of_head (g := 2) (t := 181) (by kernel_rfl) (by kernel_rfl) Tryz.underlying181 Tryz.underlying5 cells1 cells32 h6
 have t3 := Lib.tabIs_of_head (g := 3) (t := 181) (by kernel_rfl) (by kernel_rfl) Tryz.underlying181 Tryz.underlying5 cells1 cells32 h7
 have hu : Units W := by
  obtain ⟨ps, ⟨g', t', cs, fuel, p, q, hg', ht', hvar, hd, _, _⟩, _⟩ := h8
  have eg : some g' = some 4 := hg'.symm.trans (by kernel_rfl)
  obtain rfl := Option.some.inj eg
  have et : some t' = some 194 := ht'.symm.trans (by kernel_rfl)
  obtain rfl := Option.some.inj et
  have hcs := units_cells hd
  obtain ⟨t, fr, hh⟩ := heap_of_var hg' hvar
  refine ⟨t, fr, ?_⟩
  rw [hh, ← hcs]
 have hpow : Pow W := hp
 obtain ⟨_, _, hph⟩ := heap_of_var (g := 6) (by kernel_rfl) hp
 refine ⟨⟨fun i hi => ?_, fun i hi => ?_, fun i hi => ?_, fun i hi => ?_⟩, hu, hpow, (Array.getElem?_eq_some_iff.1 hph).1, maxI_of_shaped hsh⟩
 ·rw [t0.cell (by kernel_rfl) i (by simp [tabOf]; omega), tab_at 0 i hi]; congr 3; omega
 ·rw [t1.cell (by kernel_rfl) i (by simp [tabOf]; omega), tab_at 1 i hi]; congr 3
 ·rw [t2.cell (by kernel_rfl) i (by simp [tabOf]; omega), tab_at 2 i hi]; congr 3
 ·rw [t3.cell (by kernel_rfl) i (by simp [tabOf]; omega), tab_at 3 i hi]; congr 3
theorem doorRefsLaid (os : Os) (args : Array Value) : laidMetH Tryz.prog Rows.refsNamesRow.laid ((World.laidAll Tryz.prog os Rows.refsNamesRow.laid).forCall (fun _ _ => 0) ⟨#[], args, []⟩).memory := by
 rw [MakeChecks.laidMetH_plain _ _ _ (by kernel_rfl)]; exact laidMet_laidAll _ (by kernel_rfl) (by kernel_rfl)
end Go.Proofs.YtopghlnoklajkaaGreatDoor
