/-
  RefsExpF, LawOpen, RefsOpen.
-/
import Derived.Test.YtopghlnoklajkaaGreatDoorQRefsNamed
import Derived.Test.YtopghlnoklajkaaGreatDoorQSetOwn
import Derived.Carry
import Derived.Deep.Slices
import Derived.Deep.Fields
import Derived.Test.YtopghlnoklajkaaGreatDoorQRefsLaid
namespace Go.Proofs.YtopghlnoklajkaaGreatDoor
open Go.ChangeShapes Go.WideShapes Go.ChangeAt Go.RowKit

structure Chg (S : Nat → Prop) (w w' : World) : Prop where
 os : w'.os = w.os
 tape : w'.tape = w.tape
 output : w'.output = w.output
 size : w.heap.size ≤ w'.heap.size
 block : ∀ k, k < w.heap.size → ¬ S k → w'.heap[k]? = w.heap[k]?
section
variable {S S' : Nat → Prop} {w w' w2 : World}
theorem Chg.refl_ (S : Nat → Prop) (w : World) : Chg S w w := ⟨rfl, rfl, rfl, Nat.le_refl _, fun _ _ _ => rfl⟩
theorem Chg.trans_ (h : Chg S w w') (h2 : Chg S w' w2) : Chg S w w2 :=
 ⟨h2.os.trans h.os, h2.tape.trans h.tape, h2.output.trans h.output, Nat.le_trans h.size h2.size, fun k hk hn => (h2.block k (Nat.lt_of_lt_of_le hk h.size) hn).trans (h.block k hk hn)⟩
theorem Chg.more (h : Chg S w w') (hS : ∀ k, S k → S' k) : Chg S' w w' := ⟨h.os, h.tape, h.output, h.size, fun k hk hn => h.block k hk (fun e => hn (hS k e))⟩
theorem Chg.of_grown {r : Option Nat} (h : w.grownBy w' r) (hS : ∀ g, r = some g → S g) : Chg S w w' := ⟨h.os, h.tape, h.output, h.size, fun k hk hn => h.block k hk (fun e => hn (hS k e.symm))⟩
theorem Chg.of_grow2 {a b : Nat} (h : Grow2 a b w w') (ha : S a) (hb : S b) : Chg S w w' := ⟨h.os, h.tape, h.output, h.size, fun k hk hn => h.block k hk (fun e => hn (e ▸ ha)) (fun e => hn (e ▸ hb))⟩
theorem Chg.of_below (h : Below w.heap.size w w') : Chg S w w' := ⟨h.os, h.tape, h.output, h.size, fun k hk _ => h.block k hk⟩
theorem Chg.below {B : Nat} (h : Chg S w w') (hB : B ≤ w.heap.size) (hS : ∀ k, S k → B ≤ k) : Below B w w' := ⟨h.os, h.tape, h.output, h.size, fun k hk => h.block k (by omega) (fun e => by have := hS k e; omega)⟩
theorem Chg.cell_ (h : Chg S w w') {b i : Nat} (hl : b < w.heap.size) (hn : ¬ S b) : w'.cell? ⟨b, i, none⟩ = w.cell? ⟨b, i, none⟩ := cell_blkT (h.block b hl hn) i
theorem Chg.row {B s n : Nat} {e : TypeId} {v : Value} {xs : List Value} (h : Chg S w w') (hr : w.ownsRow B e s v n xs) (hn : ∀ g, v.ownBlock = some g → ¬ S g) : w'.ownsRow B e s v n xs := by
 refine ⟨hr.1, ?_⟩
 rcases hr.2 with h1 | ⟨g, cap, cur, rfl, hb, hgg, rest⟩
 ·exact .inl h1
 ·exact .inr ⟨g, cap, cur, rfl, hb, (h.block g (heap_ltF hgg) (hn g rfl)).trans hgg, rest⟩
end
structure XSt (W : World) (X n sb sc pb pc lb lc mb mc tb tc db dc : Nat) (ls : List SetM) (gl : List Nat) : Prop where
 c0 : W.cell? ⟨X, 0, none⟩ = some (.slice (some ⟨sb, 0, none⟩) n sc)
 c1 : W.cell? ⟨X, 1, none⟩ = some (.slice (some ⟨pb, 0, none⟩) n pc)
 c2 : W.cell? ⟨X, 2, none⟩ = some (.slice (some ⟨lb, 0, none⟩) n lc)
 c3 : W.cell? ⟨X, 3, none⟩ = some (.slice (some ⟨mb, 0, none⟩) n mc)
 c4 : W.cell? ⟨X, 4, none⟩ = some (.slice (some ⟨tb, 0, none⟩) n tc)
 c5 : W.cell? ⟨X, 5, none⟩ = some (.slice (some ⟨db, 0, none⟩) n dc)
 k : ∀ i (h : i < ls.length) j, j < 6 → W.cell? ⟨sb, i * 6 + j, none⟩ = (sCells ls[i])[j]?
 p : ∀ i, i < n → ∃ xb xc, W.cell? ⟨pb, i, none⟩ = some (.slice xb (Px ls i).length xc) ∧ ∀ q (h : q < (Px ls i).length), ∃ b, xb = some ⟨b, 0, none⟩ ∧ W.cell? ⟨b, q * 2, none⟩ = some (.string ⟨(Px ls i)[q].1.toArray⟩) ∧ W.cell? ⟨b, q * 2 + 1, none⟩ = some (.bool (Px ls i)[q].2)
 g : ∀ j (h : j < gl.length), W.cell? ⟨lb, j, none⟩ = some (.slice (some ⟨gl[j], 0, none⟩) n n)
 pl : ∀ s : ByteArray, Calls Tryz.prog 80 #[.pointer (some ⟨X, 0, none⟩), .string s] W fun e w' => e = .returned (.int .i64 (placeN (namesM ls) s)) ∧ W = w'
structure XAp (X n sb pb lb mb tb db : Nat) (gl : List Nat) : Prop where
 s : sb < X
 m : X < mb
 t : X < tb
 d : X < db
 g : ∀ g ∈ gl, X < g
 td : tb ≠ db
 mt : mb ≠ tb
 md : mb ≠ db
 gm : mb ∉ gl
 gt : tb ∉ gl
 gd : db ∉ gl
 nd : gl.Nodup
 len : gl.length = n
theorem own_at {w : World} {B n : Nat} {e : TypeId} {v : Value} {xs : List Value} (h : w.ownsRow B e 1 v n xs) (hn : 0 < n) : ∃ g c a, v = .slice (some ⟨g, 0, none⟩) n c ∧ B ≤ g ∧ w.heap[g]? = some (Obj.cells a e (0, 0)) ∧ ∀ j, j < n → w.cell? ⟨g, j, none⟩ = xs[j]? ∧ w.frozen? ⟨g, j, none⟩ = false := by
 rcases h.2 with ⟨_, h2⟩ | ⟨g, cap, cur, h1, hB, hg, _⟩
 ·omega
 ·have hv := h
  rw [h1] at hv
  exact ⟨g, cap, cur, h1, hB, hg, fun j hj => ⟨hv.cellAt j (by omega), by unfold World.frozen?; rw [hg]; simp⟩⟩
theorem rep_at {α : Type} {n j : Nat} {x : α} (h : j < n) : (List.replicate n x)[j]? = some x := by rw [List.getElem?_replicate, if_pos h]
set_option maxHeartbeats 800000 in
theorem WkAt.read {w1 w3 : World} {X n B : Nat} {lv pv ev mv tv dv : Value} {ls : List SetM} {ps : List Value} {gl : List Nat} (h : WkAt w1 X n lv (Px ls) w3 n n n n n pv ev mv tv dv ps gl) (hr : w3.ownsRow B 50 6 lv ls.length (sFlat ls)) (hlX : ∀ g, lv.ownBlock = some g → g < X) (hln : ls.length = n) (hn0 : 0 < n) (hn : n ≤ 1000) :
  ∃ sb sc pb pc lb lc mb mc tb tc db dc, lv = .slice (some ⟨sb, 0, none⟩) n sc ∧ mv.ownBlock = some mb ∧ tv.ownBlock = some tb ∧ dv.ownBlock = some db ∧ B ≤ sb ∧ XAp X n sb pb lb mb tb db gl ∧ IntAt w3 mb n (fun _ => -1) ∧ TxtAt w3 tb n (fun _ => ⟨#[]⟩) ∧ BoolAt w3 db n (fun _ => false) ∧ (∀ g ∈ gl, BoolAt w3 g n fun _ => false) ∧
   ∀ S W, Chg S w3 W → (∀ b, S b → b ∈ gl ∨ b = mb ∨ b = tb ∨ b = db ∨ (b < X ∧ b ≠ sb)) → XSt W X n sb sc pb pc lb lc mb mc tb tc db dc ls gl := by
 have hprow := h.prow
 obtain ⟨pb, pc, ap, hpv, hpB, hpb, hpc⟩ := own_at h.prow hn0
 obtain ⟨lb, lc, al, hev, hlB, hlb, hlc⟩ := own_at h.erow hn0
 obtain ⟨mb, mc, am, hmv, hmB, hmb, hmc⟩ := own_at h.mrow hn0
 obtain ⟨tb, tc, at_, htv, htB, htb, htc⟩ := own_at h.trow hn0
 obtain ⟨db, dc, ad, hdv, hdB, hdb, hdc⟩ := own_at h.drow hn0
 obtain ⟨sb, sc, hsv, hsl, hsc⟩ := rowS_cells hr (k := 0) (by omega)
 rw [hln] at hsv
 have hsX := hlX sb (by rw [hsv]; rfl)
 have hne : ∀ {a b : Nat} {x y : Array Value} {e f : TypeId}, w3.heap[a]? = some (Obj.cells x e (0, 0)) → w3.heap[b]? = some (Obj.cells y f (0, 0)) → e ≠ f → a ≠ b := fun h1 h2 hef e => by
  subst e
  rw [h1] at h2
  injection h2 with h2
  injection h2 with _ h2 _
  exact hef h2
 have hgd : db ∉ gl := fun hg => h.gd db hg (by rw [hdv]; rfl)
 have hgm : mb ∉ gl := fun hg => hne hmb (h.gat mb hg).2 (by decide) rfl
 have hgt : tb ∉ gl := fun hg => hne htb (h.gat tb hg).2 (by decide) rfl
 have hlen : gl.length = n := by have := h.erow.1; simpa using this
 refine ⟨sb, sc, pb, pc, lb, lc, mb, mc, tb, tc, db, dc, hsv, by rw [hmv]; rfl, by rw [htv]; rfl, by rw [hdv]; rfl, (hr.lt sb (by rw [hsv]; rfl)).1, ⟨hsX, hmB, htB, hdB, fun g hg => (h.gat g hg).1, hne htb hdb (by decide), hne hmb htb (by decide), hne hmb hdb (by decide), hgm, hgt, hgd, h.gne, hlen⟩,
  fun j hj => ⟨by rw [(hmc j hj).1, rep_at hj], (hmc j hj).2⟩, fun j hj => ⟨by rw [(htc j hj).1, rep_at hj], (htc j hj).2⟩, fun j hj => ⟨by rw [(hdc j hj).1, rep_at hj], (hdc j hj).2⟩, fun g hg j hj => ⟨?_, ?_⟩, fun S W hc hS => ?_⟩
 ·rw [cell_of_row w3 g j _ _ _ (h.gat g hg).2]
  simp [hj]
 ·unfold World.frozen?; rw [(h.gat g hg).2]; simp
 ·obtain ⟨fr, ho⟩ := h.obj
  have hXl := h.lt
  have nX : ¬ S X := fun e => by
   rcases hS X e with h1 | h1 | h1 | h1 | h1
   ·have := (h.gat X h1).1; omega
   all_goals omega
  have np : ¬ S pb := fun e => by
   rcases hS pb e with h1 | h1 | h1 | h1 | h1
   ·exact hne hpb (h.gat pb h1).2 (by decide) rfl
   ·exact hne hpb hmb (by decide) h1
   ·exact hne hpb htb (by decide) h1
   ·exact hne hpb hdb (by decide) h1
   ·omega
  have nl : ¬ S lb := fun e => by
   rcases hS lb e with h1 | h1 | h1 | h1 | h1
   ·exact hne hlb (h.gat lb h1).2 (by decide) rfl
   ·exact hne hlb hmb (by decide) h1
   ·exact hne hlb htb (by decide) h1
   ·exact hne hlb hdb (by decide) h1
   ·omega
  have ns : ¬ S sb := fun e => by
   rcases hS sb e with h1 | h1 | h1 | h1 | h1
   ·have := (h.gat sb h1).1; omega
   ·omega
   ·omega
   ·omega
   ·exact h1.2 rfl
  have hoW : WObj W X lv pv ev mv tv dv := ⟨fr, (hc.block X hXl nX).trans ho⟩
  have hrW : W.ownsRow B 50 6 lv ls.length (sFlat ls) := hc.row hr (fun g hg => by
   rw [hsv] at hg
   have : sb = g := by simpa [Value.ownBlock] using hg
   rw [← this]; exact ns)
  obtain ⟨x0, x1, x2, x3, x4, x5⟩ := hoW.cells
  obtain ⟨pb', pc', hpv', hpp⟩ := h.pieces hn0
  rw [hpv] at hpv'
  injection hpv' with e1 _ _
  injection e1 with e1
  injection e1 with e1 _ _
  subst e1
  refine ⟨by rw [x0, hsv], by rw [x1, hpv], by rw [x2, hev], by rw [x3, hmv], by rw [x4, htv], by rw [x5, hdv], fun i hi j hj => ?_, fun i hi => ?_, fun j hj => ?_, fun s => wplaceR_any B X W lv pv ev mv tv dv ls s hoW hrW (by omega)⟩
  ·obtain ⟨b, c, hb1, hb2, hb3⟩ := rowS_cells hrW hi
   rw [hsv] at hb1
   injection hb1 with e2 _ _
   injection e2 with e2
   injection e2 with e2 _ _
   rw [e2]; exact hb3 j hj
  ·obtain ⟨v, hv1, hv2⟩ := h.pcs i hi
   obtain ⟨xb, xc, hp1, hp2⟩ := hpp i hi
   refine ⟨xb, xc, (hc.cell_ (heap_ltF hpb) np).trans hp1, fun q hq => ?_⟩
   obtain ⟨b, rfl, hb1, hb2⟩ := hp2 q hq
   have hcell : v = .slice (some ⟨b, 0, none⟩) (Px ls i).length xc := by
    have := (hpc i hi).1
    rw [hv1] at this
    rw [this] at hp1
    exact Option.some.inj hp1
   have nb : ¬ S b := fun e => by
    rcases hv2.2 with ⟨h9, _⟩ | ⟨g9, cap9, cur9, h9, hB9, hg9, _⟩
    ·rw [hcell] at h9; cases h9
    ·rw [hcell] at h9
     injection h9 with e9 _ _
     injection e9 with e9
     injection e9 with e9 _ _
     subst e9
     rcases hS b e with h1 | h1 | h1 | h1 | h1
     ·exact hne hg9 (h.gat b h1).2 (by decide) rfl
     ·exact hne hg9 hmb (by decide) h1
     ·exact hne hg9 htb (by decide) h1
     ·exact hne hg9 hdb (by decide) h1
     ·omega
   have hbl := lt_of_cell hb1
   exact ⟨b, rfl, (hc.cell_ hbl nb).trans hb1, (hc.cell_ hbl nb).trans hb2⟩
  ·rw [hc.cell_ (heap_ltF hlb) nl, (hlc j (by omega)).1, List.getElem?_map, List.getElem?_eq_getElem hj]; rfl
end Go.Proofs.YtopghlnoklajkaaGreatDoor

namespace Go.Proofs.YtopghlnoklajkaaGreatDoor
open Go.ChangeShapes Go.WideShapes Go.ChangeAt Go.RowKit Go.Deep

instance : Inhabited KeyV := ⟨⟨⟨#[]⟩, 0, ⟨#[]⟩, 0, 0, ⟨#[]⟩⟩⟩
section
variable {H : Type} {enc : TypeId × Value → H}
theorem spotL {w : World} {a : Addr} {v : Value} (h : w.cell? a = some v) : a.spot = none := by
 cases hs : a.spot with
 | none => rfl
 | some n =>
  unfold World.cell? at h
  split at h <;> simp [hs] at h
theorem wf64L {n : Int} (h : (Lit.int .i64 n).wf = true) : -9223372036854775808 ≤ n ∧ n ≤ 9223372036854775807 := by
 simp only [Lit.wf, Bool.and_eq_true, decide_eq_true_eq] at h
 exact h
theorem fields_ofL {W : World} {fs : Array Field} {e : TypeId} {fuel : Nat} {a : Addr} {cs : List Value} {x : DataW H × List MemPlace} (he : Tryz.prog.underlying e = some (.struct fs)) (hone : oneCellFields Tryz.prog fs = true)
  (hc : W.cells? 0 a fs.size = some cs) (ht : DataW.trod enc Tryz.prog W 0 (fun _ => true) true fuel e cs = some x) :
  ∃ n, ∀ (j : Nat) (f : Field), fs[j]? = some f → ∃ v y, W.cell? (a.add j) = some v ∧ DataW.trod enc Tryz.prog W 0 (fun _ => true) true n f.type [v] = some y := by
 obtain ⟨ys, n, _, _, _, hyl, hf⟩ := DataW.trod_struct he ht
 obtain ⟨_, hcl, hat⟩ := World.cells?_some hc
 refine ⟨n, fun j f hj => ?_⟩
 obtain ⟨ho, hk⟩ := hone_of hone j f hj
 have hjl : j < fs.size := (Array.getElem?_eq_some_iff.1 hj).1
 have h1 := hf j f hj
 rw [ho, hk, List.drop_eq_getElem_cons (by omega)] at h1
 refine ⟨cs[j]'(by omega), ys[j]'(by omega), ?_, ?_⟩
 ·rw [hat j hjl]; exact List.getElem?_eq_getElem _
 ·rw [← List.getElem?_eq_getElem]; exact h1
theorem cellsKeyL : Tryz.prog.cellsOf 73 = 6 := by kernel_rfl
def KeyOkL (l : KeyV) : Prop := l.name.size ≤ maxLen ∧ (-9223372036854775808 ≤ l.kind ∧ l.kind ≤ 9223372036854775807) ∧ l.dflt.size ≤ maxLen ∧ (-9223372036854775808 ≤ l.least ∧ l.least ≤ 9223372036854775807) ∧ (-9223372036854775808 ≤ l.most ∧ l.most ≤ 9223372036854775807) ∧ l.letter.size ≤ maxLen
set_option maxRecDepth 100000 in
theorem open_keys {W : World} {r : Reach} {b0 : Nat} {v : Value} {d : DataW H} {p : List MemPlace} (hv : Value.okWide Tryz.prog W r b0 32 v) (h : DataW.Trod enc Tryz.prog W 0 (fun _ => true) true 32 v d p) :
  ∃ x ls cap, v = .slice x (List.length ls) cap ∧ KeysAt W x ls ∧ ls.length ≤ cap ∧ ls.length ≤ maxLen ∧ ∀ l ∈ ls, KeyOkL l := by
 obtain ⟨a0, len, cap, rfl⟩ := okWide_slice Tryz.underlying32 hv
 obtain ⟨fuel, hf⟩ := h
 rcases open_slice Tryz.underlying32 hf with ⟨hcs, _⟩ | ⟨a, len', cap', m, n, D, Pl, hcs, hb, hl, hm, hmm, _, hi⟩
 ·simp [Value.cells] at hcs
  obtain ⟨rfl, rfl, rfl⟩ := hcs
  exact ⟨none, [], 0, rfl, fun k hk => absurd hk (by simp), by simp, by simp, fun l hl => by cases hl⟩
 ·simp [Value.cells] at hcs
  obtain ⟨rfl, rfl, rfl⟩ := hcs
  simp only [if_true] at hmm
  have each : ∀ i, i < len → ∃ o : KeyV, KeyOkL o ∧ ∃ b off, (some a : Option Addr) = some ⟨b, off, none⟩ ∧ b < W.heap.size ∧ W.cell? ⟨b, off + i * 6, none⟩ = some (.string o.name) ∧ W.cell? ⟨b, off + i * 6 + 1, none⟩ = some (.int .i64 o.kind) ∧ W.cell? ⟨b, off + i * 6 + 2, none⟩ = some (.string o.dflt) ∧ W.cell? ⟨b, off + i * 6 + 3, none⟩ = some (.int .i64 o.least) ∧ W.cell? ⟨b, off + i * 6 + 4, none⟩ = some (.int .i64 o.most) ∧ W.cell? ⟨b, off + i * 6 + 5, none⟩ = some (.string o.letter) := by
   intro i hil
   obtain ⟨cs', hc, ht⟩ := hi i (by omega)
   rw [cellsKeyL] at hc
   obtain ⟨n', hfs⟩ := fields_ofL Tryz.underlying73 (by kernel_rfl) hc ht
   obtain ⟨v0, y0, c0, t0⟩ := hfs 0 _ rfl
   obtain ⟨v1, y1, c1, t1⟩ := hfs 1 _ rfl
   obtain ⟨v2, y2, c2, t2⟩ := hfs 2 _ rfl
   obtain ⟨v3, y3, c3, t3⟩ := hfs 3 _ rfl
   obtain ⟨v4, y4, c4, t4⟩ := hfs 4 _ rfl
   obtain ⟨v5, y5, c5, t5⟩ := hfs 5 _ rfl
   obtain ⟨s0, e0, _, g0⟩ := DataW.trod_string Tryz.underlying9 t0
   obtain ⟨n1, e1, _, g1⟩ := DataW.trod_int Tryz.underlying3 t1
   obtain ⟨s2, e2, _, g2⟩ := DataW.trod_string Tryz.underlying9 t2
   obtain ⟨n3, e3, _, g3⟩ := DataW.trod_int Tryz.underlying3 t3
   obtain ⟨n4, e4, _, g4⟩ := DataW.trod_int Tryz.underlying3 t4
   obtain ⟨s5, e5, _, g5⟩ := DataW.trod_string Tryz.underlying9 t5
   simp only [List.cons.injEq, and_true] at e0 e1 e2 e3 e4 e5
   subst e0 e1 e2 e3 e4 e5
   have hspot : a.spot = none := by
    have h1 : ((a.add (i * 6)).add 0).spot = none := spotL c0
    by_cases h0 : i = 0
    ·subst h0; simpa [Addr.add] using h1
    ·obtain ⟨cs0, hc0, _⟩ := hi 0 (by omega)
     obtain ⟨_, hcl, hat⟩ := World.cells?_some hc0
     rw [cellsKeyL] at hcl hat
     have h2 := hat 0 (by omega)
     rw [List.getElem?_eq_getElem (by omega)] at h2
     have h3 := spotL h2
     simpa [Addr.add] using h3
   obtain ⟨b, off, sp⟩ := a
   simp only at hspot
   subst hspot
   have hadd : ∀ j, ((⟨b, off, none⟩ : Addr).add (i * 6)).add j = ⟨b, off + i * 6 + j, none⟩ := fun j => by rw [add_at, add_at]
   rw [hadd] at c0 c1 c2 c3 c4 c5
   have hbl : b < W.heap.size := by
    rcases Nat.lt_or_ge b W.heap.size with h | h
    ·exact h
    ·simp [World.cell?, Array.getElem?_eq_none h] at c0
   exact ⟨⟨s0, n1, s2, n3, n4, s5⟩, ⟨g0, wf64L g1, g2, wf64L g3, wf64L g4, g5⟩, b, off, rfl, hbl, c0, c1, c2, c3, c4, c5⟩
  obtain ⟨f, hf'⟩ := choose_lt each
  refine ⟨some a, (List.range len).map f, cap, by simp, fun k hk => ?_, by simpa using hl, by simp; omega, fun l hl' => ?_⟩
  ·have hk' : k < len := by simpa using hk
   have := (hf' k hk').2
   simpa using this
  ·obtain ⟨i, hi', rfl⟩ := List.mem_map.1 hl'
   exact (hf' i (List.mem_range.1 hi')).1
end
end Go.Proofs.YtopghlnoklajkaaGreatDoor

namespace Go.Proofs.YtopghlnoklajkaaGreatDoor
open Go.ChangeShapes Go.WideShapes Go.ChangeAt Go.RowKit Go.Deep

instance : Inhabited PutV := ⟨⟨0, 0, ⟨#[]⟩⟩⟩
section
variable {H : Type} {enc : TypeId × Value → H}
theorem cellsPutL : Tryz.prog.cellsOf 75 = 3 := by kernel_rfl
def PutOkL (l : PutV) : Prop := (-9223372036854775808 ≤ l.at_ ∧ l.at_ ≤ 9223372036854775807) ∧ (-9223372036854775808 ≤ l.from_ ∧ l.from_ ≤ 9223372036854775807) ∧ l.text.size ≤ maxLen
set_option maxRecDepth 100000 in
theorem open_puts {W : World} {r : Reach} {b0 : Nat} {v : Value} {d : DataW H} {p : List MemPlace} (hv : Value.okWide Tryz.prog W r b0 33 v) (h : DataW.Trod enc Tryz.prog W 0 (fun _ => true) true 33 v d p) :
  ∃ x ls cap, v = .slice x (List.length ls) cap ∧ PutsAt W x ls ∧ ls.length ≤ cap ∧ ls.length ≤ maxLen ∧ ∀ l ∈ ls, PutOkL l := by
 obtain ⟨a0, len, cap, rfl⟩ := okWide_slice Tryz.underlying33 hv
 obtain ⟨fuel, hf⟩ := h
 rcases open_slice Tryz.underlying33 hf with ⟨hcs, _⟩ | ⟨a, len', cap', m, n, D, Pl, hcs, hb, hl, hm, hmm, _, hi⟩
 ·simp [Value.cells] at hcs
  obtain ⟨rfl, rfl, rfl⟩ := hcs
  exact ⟨none, [], 0, rfl, fun k hk => absurd hk (by simp), by simp, by simp, fun l hl => by cases hl⟩
 ·simp [Value.cells] at hcs
  obtain ⟨rfl, rfl, rfl⟩ := hcs
  simp only [if_true] at hmm
  have each : ∀ i, i < len → ∃ o : PutV, PutOkL o ∧ ∃ b off, (some a : Option Addr) = some ⟨b, off, none⟩ ∧ b < W.heap.size ∧ W.cell? ⟨b, off + i * 3, none⟩ = some (.int .i64 o.at_) ∧ W.cell? ⟨b, off + i * 3 + 1, none⟩ = some (.int .i64 o.from_) ∧ W.cell? ⟨b, off + i * 3 + 2, none⟩ = some (.string o.text) := by
   intro i hil
   obtain ⟨cs', hc, ht⟩ := hi i (by omega)
   rw [cellsPutL] at hc
   obtain ⟨n', hfs⟩ := fields_ofL Tryz.underlying75 (by kernel_rfl) hc ht
   obtain ⟨v0, y0, c0, t0⟩ := hfs 0 _ rfl
   obtain ⟨v1, y1, c1, t1⟩ := hfs 1 _ rfl
   obtain ⟨v2, y2, c2, t2⟩ := hfs 2 _ rfl
   obtain ⟨n0, e0, _, g0⟩ := DataW.trod_int Tryz.underlying3 t0
   obtain ⟨n1, e1, _, g1⟩ := DataW.trod_int Tryz.underlying3 t1
   obtain ⟨s2, e2, _, g2⟩ := DataW.trod_string Tryz.underlying9 t2
   simp only [List.cons.injEq, and_true] at e0 e1 e2
   subst e0 e1 e2
   have hspot : a.spot = none := by
    have h1 : ((a.add (i * 3)).add 0).spot = none := spotL c0
    by_cases h0 : i = 0
    ·subst h0; simpa [Addr.add] using h1
    ·obtain ⟨cs0, hc0, _⟩ := hi 0 (by omega)
     obtain ⟨_, hcl, hat⟩ := World.cells?_some hc0
     rw [cellsPutL] at hcl hat
     have h2 := hat 0 (by omega)
     rw [List.getElem?_eq_getElem (by omega)] at h2
     have h3 := spotL h2
     simpa [Addr.add] using h3
   obtain ⟨b, off, sp⟩ := a
   simp only at hspot
   subst hspot
   have hadd : ∀ j, ((⟨b, off, none⟩ : Addr).add (i * 3)).add j = ⟨b, off + i * 3 + j, none⟩ := fun j => by rw [add_at, add_at]
   rw [hadd] at c0 c1 c2
   have hbl : b < W.heap.size := by
    rcases Nat.lt_or_ge b W.heap.size with h | h
    ·exact h
    ·simp [World.cell?, Array.getElem?_eq_none h] at c0
   exact ⟨⟨n0, n1, s2⟩, ⟨wf64L g0, wf64L g1, g2⟩, b, off, rfl, hbl, c0, c1, c2⟩
  obtain ⟨f, hf'⟩ := choose_lt each
  refine ⟨some a, (List.range len).map f, cap, by simp, fun k hk => ?_, by simpa using hl, by simp; omega, fun l hl' => ?_⟩
  ·have hk' : k < len := by simpa using hk
   have := (hf' k hk').2
   simpa using this
  ·obtain ⟨i, hi', rfl⟩ := List.mem_map.1 hl'
   exact (hf' i (List.mem_range.1 hi')).1
end
end Go.Proofs.YtopghlnoklajkaaGreatDoor
