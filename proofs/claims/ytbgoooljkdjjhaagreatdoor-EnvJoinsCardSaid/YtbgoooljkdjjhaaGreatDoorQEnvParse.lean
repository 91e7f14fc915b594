/-
  EnvParse.
-/
import Derived.Test.YtbgoooljkdjjhaaGreatDoorQEnvMaps
import Derived.Deep.AppendLies
namespace Go.Proofs.YtbgoooljkdjjhaaGreatDoor
open Go.ChangeShapes Go.WideShapes Go.ChangeAt Go.RowKit Go.Maps

/-- A list of settings of a call's own. -/
structure OwnG (w0 w : World) (v : Value) (gs : List GivV) : Prop where
  own : w.ownsRow w0.heap.size 27 3 v gs.length (gFlat gs)
  below : Below w0.heap.size w0 w
theorem OwnG.after {w0 w w' : World} {v : Value} {gs : List GivV} (h : OwnG w0 w v gs) (hb : Below w.heap.size w w') : OwnG w0 w' v gs :=
  ⟨h.own.kept (row := none) ⟨hb.os, hb.tape, hb.output, hb.size, fun k hk _ => hb.block k hk⟩ (by cases hv : v.ownBlock <;> simp), h.below.trans (hb.mono h.below.size)⟩
theorem gFlat_snoc (gs : List GivV) (g : GivV) : gFlat (gs ++ [g]) = gFlat gs ++ gCells g := by
  unfold gFlat
  rw [List.flatMap_append]
  simp
/-- A setting goes to a list of settings. -/
theorem appendG {ops : Array Oper} {rest : List Oper} {o : Oper} {a : Act} {Q : Exit → Act → World → Prop} (hgd : o.guard = none) (s x : Operand)
    (ho : o.op = .call { callee := .builtin .append, args := #[s, x], argTypes := #[23, 23] }) {w0 w : World} {v : Value} {nm tx : ByteArray} {at_ : Int} {gs : List GivV} (hown : OwnG w0 w v gs) (hn : gs.length ≤ 10000000000) (hs : a.eval s = v)
    {c g : Nat} (hx : a.eval x = .slice (some ⟨g, 0, none⟩) 1 c) (hg : g = w.heap.size)
    (h : ∀ y cap w', OwnG w0 w' (.slice (some ⟨y, 0, none⟩) (gs.length + 1) cap) (gs ++ [⟨nm, tx, at_⟩]) → (w.alloc (Obj.cells #[.string nm, .string tx, .int .i64 at_] 27)).grownBy w' v.ownBlock → wpList Tryz.prog ops Q rest (a.put o.dst (.slice (some ⟨y, 0, none⟩) (gs.length + 1) cap)) w') :
    wpList Tryz.prog ops Q (o :: rest) a (w.alloc (Obj.cells #[.string nm, .string tx, .int .i64 at_] 27)) := by
  subst hg
  obtain ⟨i0, hi, hz0, hz1, hz2⟩ := info_parts infoGv
  have hz := hown.below.size
  refine wpList_append_lies _ hgd s x _ ho w0.heap.size 27 i0 _ 3 40 Tryz.underlying23 hi hz0 hz1 hz2 rfl (by decide) v gs.length (gFlat gs) hs (hown.own.alloc _) ⟨w.heap.size, 0, none⟩ 1 c (gCells ⟨nm, tx, at_⟩) hx rfl (World.news_of_block (heap_alloc_new w _)) ?_ (by decide) (by unfold maxLen; omega) (by omega) (by have := (below_one w (Obj.cells #[.string nm, .string tx, .int .i64 at_] 27)).size; omega) _ rfl ?_
  · intro u hu
    unfold gCells at hu
    simp only [List.mem_cons, List.not_mem_nil, or_false] at hu
    rcases hu with rfl | rfl | rfl <;> rfl
  · intro y cap w1 h1 h2 _ _
    refine h y cap w1 ⟨?_, (hown.below.alloc hz _).grown h2 (by simp; omega) (fun k hk => (hown.own.lt k hk).1)⟩ h2
    rw [List.length_append, gFlat_snoc]
    exact h1
/-- A look-up in the map of the definitions. -/
theorem lookup_key (w : World) {ops : Array Oper} {rest : List Oper} {o : Oper} {a : Act} {Q : Exit → Act → World → Prop} (hg : o.guard = none) (m x : Operand) (hop : o.op = Op.lookup 71 m x true)
    {ns : List ByteArray} {M n : Nat} (hm : a.eval m = .map (some M)) (hown : w.ownsMap Tryz.prog 9 keyElem M n (setD ns)) (hok : AllOk ns) (s : ByteArray) (hx : a.eval x = .string s) (hs : s.size ≤ maxLen)
    (hK : ∀ (nm : ByteArray) (kd : Int) (dl : ByteArray) (la lb : Int) (le : ByteArray), (∀ k, findN ns s.data.toList = some k → nm = k) → wpList Tryz.prog ops Q rest (a.put o.dst (.tuple #[.agg #[.string nm, .int .i64 kd, .string dl, .int .i64 la, .int .i64 lb, .string le], .bool (findN ns s.data.toList).isSome])) w) :
    wpList Tryz.prog ops Q (o :: rest) a w :=
  wpList_lookup_own_ok w hg m x _ hop 9 57 strK Tryz.underlying71 keyElem (zeroK w) (nameD kZ.name) [] (keyElem_mk kZ) M n _ hm hown _ (.string s.data.toList) hx (key_of s hs) (fun v ps hv => by
    obtain ⟨k, rfl, hz⟩ := keyElem_inv hv
    rw [setD_has ns _ hok]
    refine hK k.name k.kind k.dflt k.least k.most k.letter fun q hq => ?_
    have := congrArg Prod.fst hz
    rw [setD_at ns _ _ hok, hq] at this
    exact (nameD_inj this).symm)
/-- What a round of Parse holds. -/
structure EpAt (w wr : World) (M F B : Nat) (ns : List ByteArray) (v : Value) (gs : List GivV) : Prop where
  m : wr.ownsMap Tryz.prog 9 keyElem M ns.length (setD ns)
  f : wr.ownsMap Tryz.prog 9 (unitElem (H := Unit)) F ns.length (firstD ns)
  box : wr.heap[B]? = some (Obj.cells #[.map (some M), .map (some F)] 74)
  own : OwnG w wr v gs
theorem EpAt.to {w wr wr' : World} {M F B : Nat} {ns : List ByteArray} {v : Value} {gs : List GivV} (h : EpAt w wr M F B ns v gs) (hb : Below wr.heap.size wr wr') : EpAt w wr' M F B ns v gs :=
  ⟨map_same h.m (hb.block _ (map_lt h.m)), map_same h.f (hb.block _ (map_lt h.f)), (hb.block _ (heap_ltF h.box)).trans h.box, h.own.after hb⟩
theorem EpAt.cells {w wr : World} {M F B : Nat} {ns : List ByteArray} {v : Value} {gs : List GivV} (h : EpAt w wr M F B ns v gs) : wr.cell? ⟨B, 0, none⟩ = some (.map (some M)) ∧ wr.cell? ⟨B, 1, none⟩ = some (.map (some F)) := by
  refine ⟨?_, ?_⟩
  all_goals rw [cell_of_row wr _ _ _ _ _ h.box]; rfl
theorem own_nomap {w : World} {B q size n c : Nat} {e : TypeId} {v : Value} {xs : List Value} {es : Array MapEntry} (h : w.ownsRow B e size v n xs) (hq : w.heap[q]? = some (.map es c)) : v.ownBlock ≠ some q := by
  intro hv
  rcases h.2 with ⟨h1, _⟩ | ⟨g, cap, cur, h1, _, hg, _⟩
  · rw [h1] at hv; cases hv
  · rw [h1] at hv
    have : g = q := by injection hv
    subst this
    rw [hq] at hg
    injection hg with hg
    cases hg
theorem EpAt.push {w wr w' : World} {M F B : Nat} {ns : List ByteArray} {v v' : Value} {gs gs' : List GivV} (h : EpAt w wr M F B ns v gs) (ho : OwnG w w' v' gs') (hg : wr.grownBy w' v.ownBlock) : EpAt w w' M F B ns v' gs' := by
  have hm := h.m
  have hf := h.f
  obtain ⟨es1, k1, m1, _⟩ := h.m
  obtain ⟨es2, k2, m2, _⟩ := h.f
  exact ⟨map_same hm (hg.block _ (map_lt hm) (fun e => own_nomap h.own.own m1 e.symm)), map_same hf (hg.block _ (map_lt hf) (fun e => own_nomap h.own.own m2 e.symm)), (hg.block _ (heap_ltF h.box) (fun e => own_ne h.own.own h.box (by decide) e.symm)).trans h.box, ho⟩
theorem pair_cases (ns : List ByteArray) (k : Nat) (p : List UInt8) :
    (p.contains 61 = false ∧ pairE ns p = 80) ∨ (p.contains 61 = true ∧ (upTo 61 p).isEmpty = true ∧ pairE ns p = 80) ∨
    (p.contains 61 = true ∧ (upTo 61 p).isEmpty = false ∧ ∃ n, findN ns (upTo 61 p) = some n ∧ pairE ns p = 0 ∧ pairG ns k p = [⟨n, mkB (after 61 p), k⟩]) ∨
    (p.contains 61 = true ∧ (upTo 61 p).isEmpty = false ∧ findN ns (upTo 61 p) = none ∧ likeN ns (upTo 61 p) = true ∧ pairE ns p = 81) ∨
    (p.contains 61 = true ∧ (upTo 61 p).isEmpty = false ∧ findN ns (upTo 61 p) = none ∧ likeN ns (upTo 61 p) = false ∧ pairE ns p = 0 ∧ pairG ns k p = []) := by
  unfold pairE pairG
  cases h1 : p.contains 61 with
  | false => exact .inl ⟨rfl, by simp⟩
  | true =>
    cases h2 : (upTo 61 p).isEmpty with
    | true => exact .inr (.inl ⟨rfl, rfl, by simp⟩)
    | false =>
      cases h3 : findN ns (upTo 61 p) with
      | some n => exact .inr (.inr (.inl ⟨rfl, rfl, n, rfl, by simp, rfl⟩))
      | none =>
        cases h4 : likeN ns (upTo 61 p) with
        | true => exact .inr (.inr (.inr (.inl ⟨rfl, rfl, rfl, rfl, by simp⟩)))
        | false => exact .inr (.inr (.inr (.inr ⟨rfl, rfl, rfl, rfl, by simp, rfl⟩)))
/-- What Parse answers. -/
def EnvRes (w : World) (p : List GivV × Int × Int) (e : Ending) (w' : World) : Prop := ∃ v, e = .returned (.tuple #[v, .int .i64 p.2.1, .int .i64 p.2.2]) ∧ OwnG w w' v p.1
theorem envres_err {w wr : World} (en k : Int) (hb : Below w.heap.size w wr) : EnvRes w ([], en, k) (.returned (.tuple #[.slice none 0 0, .int .i64 en, .int .i64 k])) wr := ⟨_, rfl, World.ownsRow_nil _ _ _ _, hb⟩
set_option maxHeartbeats 6400000 in
set_option maxRecDepth 100000 in
theorem eparse_any (xs : List KeyV) (S : Nat) (x0 : Option Addr) (c0 : Nat) (ps : List ByteArray) (px : Option Addr) (pc : Nat) (w : World) (hS : SetAt w S x0 c0 xs) (hn : xs.length ≤ 1000) (hok : ∀ k ∈ xs, nameB k.name.data.toList = true)
    (hp : TxAt w px ps) (hl : ps.length ≤ 2147483647) (hz : ∀ p ∈ ps, p.size ≤ 2147483647) (hm : MaxI w) :
    Calls Tryz.prog 23 #[.pointer (some ⟨S, 0, none⟩), .slice px ps.length pc] w (EnvRes w (envP (xs.map (·.name)) ps)) := by
  have HNO := Lib.hid (namesOf_any xs S x0 c0 w hS hn hok hm)
  have HAO : Hid (AllOk (xs.map (·.name))) := Lib.hid fun n hn => by
    obtain ⟨k, hk, rfl⟩ := List.mem_map.1 hn
    exact name_ok (hok k hk)
  have HNS : Hid (∀ n ∈ xs.map (·.name), n.size ≤ 4294967280) := Lib.hid fun n hn => by
    obtain ⟨k, hk, rfl⟩ := List.mem_map.1 hn
    have := name_len (hok k hk)
    have e : k.name.data.toList.length = k.name.size := by simp
    omega
  have HM : Hid (∀ W, Below w.heap.size w W → MaxI W) := Lib.hid fun W hb => hm.below hb
  have HTX : Hid (∀ W, Below w.heap.size w W → TxAt W px ps) := Lib.hid fun W hb => hp.below hb
  have HZ := Lib.hid hz
  generalize xs.map (·.name) = ns at *
  obtain ⟨R, hR⟩ : ∃ R, envP ns ps = R := ⟨_, rfl⟩
  have HR : Hid (envGo ns 0 (ps.drop 0) [] = R) := Lib.hid hR
  rw [hR]
  obtain ⟨n, hn'⟩ : ∃ n, ps.length = n := ⟨_, rfl⟩
  have HN := Lib.hid hn'
  rw [hn'] at hl ⊢
  clear hS hok hp hz hm hn hR hn'
  go_enter Tryz.func23, Tryz.ntmps23
  go_wp2_with fail
  refine HNO.out.mono ?_
  rintro e w1 ⟨M, F, rfl, hma, hb1⟩
  have HE1 : Hid (EpAt w (w1.alloc (Obj.cells #[.map (some M), .map (some F)] 74)) M F w1.heap.size ns (.slice none 0 0) []) := Lib.hid (by
    have b2 := below_one w1 (Obj.cells #[.map (some M), .map (some F)] 74)
    have h2 := hma.below b2
    exact ⟨h2.m, h2.f, heap_alloc_new _ _, ⟨World.ownsRow_nil _ _ _ _, hb1.trans (b2.mono hb1.size)⟩⟩)
  clear hma hb1 HNO
  have HCL : Hid (∀ W (s : ByteArray), s.size ≤ 4294967280 → Calls Tryz.prog 45 #[.string s] W fun e w' => e = .returned (.string s) ∧ Below W.heap.size W w') := Lib.hid fun W s hs => clone_any s W (by omega)
  go_wp2
  generalize w1.heap.size = B at HE1 ⊢
  go_loopw [8, 22] (fun vv i wr => ∃ (v : Value) (t : Nat) (gs : List GivV), vv = v ∧ i = .int .i64 t ∧ t ≤ n ∧ gs.length ≤ t ∧ Hid (EpAt w wr M F B ns v gs) ∧ Hid (envGo ns t (ps.drop t) gs = R)) (fun _ i _ => n - (intOf i).toNat)
  case atStart => exact ⟨_, 0, [], rfl, rfl, by omega, by simp, HE1, HR⟩
  case round =>
    clear HE1 HR
    obtain ⟨v, t, gs, rfl, rfl, ht, hgl, HE, HR⟩ := hrel
    by_cases hlt : t < n
    · have q1 : (0 : Int) ≤ t := by omega
      have q2 : (t : Int) < n := by omega
      have htx : t < ps.length := by rw [HN.out]; exact hlt
      obtain ⟨bx, off, hxe, hxl, d0⟩ := (HTX.out _ HE.out.own.below) t htx
      have hRd := HR.out
      rw [env_drop ns ps t htx] at hRd
      have hpz := HZ.out _ (List.getElem_mem htx)
      have HCU : Hid (∀ W, Below w.heap.size w W → Calls Tryz.prog 44 #[.string ps[t], .string ⟨#[61]⟩] W fun e w' => e = .returned (.tuple #[.string (mkB (upTo 61 ps[t].data.toList)), .string (mkB (if ps[t].data.toList.contains 61 then after 61 ps[t].data.toList else [])), .bool (ps[t].data.toList.contains 61)]) ∧ Below W.heap.size W w') := Lib.hid fun W hb => ecut_any 61 ps[t] W (by omega) (HM.out W hb)
      have hcase := pair_cases ns t ps[t].data.toList
      have hq1 : (mkB (upTo 61 ps[t].data.toList)).size ≤ 2147483647 := by
        rw [mkBsz]
        have h2 : (upTo 61 ps[t].data.toList).length ≤ ps[t].data.toList.length := (List.takeWhile_sublist _).length_le
        have h3 : ps[t].data.toList.length = ps[t].size := by simp
        omega
      have hq2 : (mkB (after 61 ps[t].data.toList)).size ≤ 2147483647 := by
        rw [mkBsz]
        have h2 : (after 61 ps[t].data.toList).length ≤ ps[t].data.toList.length := by
          unfold after
          rw [List.length_drop]
          have := (List.dropWhile_sublist (· != (61 : UInt8)) (l := ps[t].data.toList)).length_le
          omega
        have h3 : ps[t].data.toList.length = ps[t].size := by simp
        omega
      obtain ⟨nb, hnbe⟩ : ∃ nb, mkB (upTo 61 ps[t].data.toList) = nb := ⟨_, rfl⟩
      have hnb : upTo 61 ps[t].data.toList = nb.data.toList := by rw [← hnbe, mkB_data]
      have hem : nb.data.toList.isEmpty = nb.toList.isEmpty := by rw [Lib.toList_data]
      rw [hnb, hem] at hcase
      rw [hnbe] at HCU hq1
      clear hem hpz HR hnb hnbe
      generalize ps[t] = p at *
      subst hxe
      rcases hcase with ⟨k1, k2⟩ | ⟨k1, k2, k3⟩ | ⟨k1, k2, nn, k3, k4, k5⟩ | ⟨k1, k2, k3, k4, k5⟩ | ⟨k1, k2, k3, k4, k5, k6⟩
      · rw [k2, if_neg (by decide)] at hRd
        have HRR := Lib.hid hRd
        clear k2
        rw [k1] at HCU
        rw [if_neg (by decide)] at HCU
        clear htx hRd
        go_wp2_with fail
        refine (HCU.out _ HE.out.own.below).mono ?_
        rintro e w2 ⟨rfl, hb2⟩
        have HE2 := Lib.hid (HE.out.to hb2)
        obtain ⟨b0, b1⟩ := HE2.out.cells
        clear hb2 HCU HE
        go_wp2_with (at_lookup; refine lookup_key _ rfl _ _ rfl rfl HE2.out.m HAO.out _ rfl (by unfold maxLen; omega) ?_; intro nm kd dl la lb le hnm)
        go_ret3
        rw [← HRR.out]
        exact envres_err _ _ (HE2.out.own.below.trans ((below_one w2 _).mono HE2.out.own.below.size))
      · rw [k3, if_neg (by decide)] at hRd
        have HRR := Lib.hid hRd
        clear k3
        rw [k1] at HCU
        rw [if_pos rfl] at HCU
        clear htx hRd
        go_wp2_with fail
        refine (HCU.out _ HE.out.own.below).mono ?_
        rintro e w2 ⟨rfl, hb2⟩
        have HE2 := Lib.hid (HE.out.to hb2)
        obtain ⟨b0, b1⟩ := HE2.out.cells
        clear hb2 HCU HE
        go_wp2_with (at_lookup; refine lookup_key _ rfl _ _ rfl rfl HE2.out.m HAO.out _ rfl (by unfold maxLen; omega) ?_; intro nm kd dl la lb le hnm)
        go_ret3
        rw [← HRR.out]
        exact envres_err _ _ (HE2.out.own.below.trans ((below_one w2 _).mono HE2.out.own.below.size))
      · rw [k4, if_pos rfl, k5] at hRd
        have HRR := Lib.hid hRd
        have hns := HNS.out nn (findN_some k3).1
        clear k4 k5
        rw [k1] at HCU
        rw [if_pos rfl] at HCU
        generalize mkB (after 61 p.data.toList) = tx at *
        clear htx hRd
        go_wp2_with fail
        refine (HCU.out _ HE.out.own.below).mono ?_
        rintro e w2 ⟨rfl, hb2⟩
        have HE2 := Lib.hid (HE.out.to hb2)
        obtain ⟨b0, b1⟩ := HE2.out.cells
        clear hb2 HCU HE
        go_wp2_with (at_lookup; refine lookup_key _ rfl _ _ rfl rfl HE2.out.m HAO.out _ rfl (by unfold maxLen; omega) ?_; intro nm kd dl la lb le hnm; obtain rfl := hnm nn k3; rw [k3])
        refine (HCL.out _ nm hns).mono ?_
        rintro e w3 ⟨rfl, hb3⟩
        have HE3 := Lib.hid ((HE2.out.to (below_one w2 _)).to hb3)
        clear hb3 HE2 b0 b1
        go_wp2_with fail
        refine (HCL.out _ tx (by omega)).mono ?_
        rintro e w4 ⟨rfl, hb4⟩
        have HE4 := Lib.hid (HE3.out.to hb4)
        clear hb4 HE3
        go_wp2_with (at_builtin; refine appendG rfl _ _ rfl HE4.out.own (by omega) rfl rfl rfl ?_; intro y cap w5 ho hg; have HE5 := Lib.hid ((HE4.out.to (below_one w4 _)).push ho hg); clear ho hg)
        go_roundw
        case rel => exact ⟨_, t + 1, _, rfl, by go_num, by omega, by simp; omega, HE5, HRR⟩
        case measure => simp [intOf]; omega
      · rw [k5, if_neg (by decide)] at hRd
        have HRR := Lib.hid hRd
        have HSP : Hid (∀ W v, EpAt w W M F B ns v gs → Calls Tryz.prog 46 #[.agg #[.map (some M), .map (some F)], .string nb] W fun e w' => e = .returned (.bool true) ∧ Below W.heap.size W w') := Lib.hid fun W v h => by
          have := speaks_any ns M F ns.length nb W h.f (by omega) (HM.out W h.own.below)
          rw [k4] at this
          exact this
        clear k4 k5
        rw [k1] at HCU
        rw [if_pos rfl] at HCU
        clear htx hRd
        go_wp2_with fail
        refine (HCU.out _ HE.out.own.below).mono ?_
        rintro e w2 ⟨rfl, hb2⟩
        have HE2 := Lib.hid (HE.out.to hb2)
        obtain ⟨b0, b1⟩ := HE2.out.cells
        have HE3 := Lib.hid (fun o => HE2.out.to (below_one w2 o))
        have b2 := fun o => (HE3.out o).cells.1
        have b3 := fun o => (HE3.out o).cells.2
        clear hb2 HCU HE
        go_wp2_with (at_lookup; refine lookup_key _ rfl _ _ rfl rfl HE2.out.m HAO.out _ rfl (by unfold maxLen; omega) ?_; intro nm kd dl la lb le hnm; rw [k3])
        refine (HSP.out _ _ (HE3.out _)).mono ?_
        rintro e w3 ⟨rfl, hb3⟩
        have HE4 := Lib.hid ((HE3.out _).to hb3)
        clear hb3 HE3 HE2
        go_wp2
        go_ret3
        rw [← HRR.out]
        exact envres_err _ _ HE4.out.own.below
      · rw [k5, if_pos rfl, k6, List.append_nil] at hRd
        have HRR := Lib.hid hRd
        have HSP : Hid (∀ W v, EpAt w W M F B ns v gs → Calls Tryz.prog 46 #[.agg #[.map (some M), .map (some F)], .string nb] W fun e w' => e = .returned (.bool false) ∧ Below W.heap.size W w') := Lib.hid fun W v h => by
          have := speaks_any ns M F ns.length nb W h.f (by omega) (HM.out W h.own.below)
          rw [k4] at this
          exact this
        clear k4 k5 k6
        rw [k1] at HCU
        rw [if_pos rfl] at HCU
        clear htx hRd
        go_wp2_with fail
        refine (HCU.out _ HE.out.own.below).mono ?_
        rintro e w2 ⟨rfl, hb2⟩
        have HE2 := Lib.hid (HE.out.to hb2)
        obtain ⟨b0, b1⟩ := HE2.out.cells
        have HE3 := Lib.hid (fun o => HE2.out.to (below_one w2 o))
        have b2 := fun o => (HE3.out o).cells.1
        have b3 := fun o => (HE3.out o).cells.2
        clear hb2 HCU HE
        go_wp2_with (at_lookup; refine lookup_key _ rfl _ _ rfl rfl HE2.out.m HAO.out _ rfl (by unfold maxLen; omega) ?_; intro nm kd dl la lb le hnm; rw [k3])
        refine (HSP.out _ _ (HE3.out _)).mono ?_
        rintro e w3 ⟨rfl, hb3⟩
        have HE4 := Lib.hid ((HE3.out _).to hb3)
        clear hb3 HE3 HE2
        go_wp2
        go_roundw
        case rel => exact ⟨_, t + 1, gs, rfl, by go_num, by omega, by omega, HE4, HRR⟩
        case measure => simp [intOf]; omega
    · have hte : t = n := by omega
      subst hte
      have q2 : ¬ (t : Int) < t := by omega
      have hRd := HR.out
      rw [List.drop_eq_nil_of_le (by rw [HN.out]; exact Nat.le_refl _), envGo] at hRd
      have HRR := Lib.hid hRd
      clear hRd
      go_wp2
      go_ret3
      rw [← HRR.out]
      exact ⟨_, rfl, HE.out.own⟩
end Go.Proofs.YtbgoooljkdjjhaaGreatDoor
