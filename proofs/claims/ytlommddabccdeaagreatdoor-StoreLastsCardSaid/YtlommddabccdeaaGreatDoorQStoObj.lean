/-
  StoTkn, StoObj.
-/
import Derived.Test.YtlommddabccdeaaGreatDoorQStoTakeW
import Derived.Test.YtlommddabccdeaaGreatDoorQJnlRecs
import Derived.Test.YtlommddabccdeaaGreatDoorQJnlAppend
import Derived.BigQuiet
namespace Go.Proofs.YtlommddabccdeaaGreatDoor
open Go.ChangeShapes Go.WideShapes Go.ChangeAt Go.RowKit

inductive Tks : Bool → List PairV → List (List UInt8) → List PairV → Prop
 | nil {b : Bool} {ps : List PairV} : Tks b ps [] ps
 | step {b : Bool} {base ps : List PairV} {rs : List (List UInt8)} {says : Nat} {cs : List ChgV} (hK : TakeOk base cs says b) (h : Tks false (allB base cs) rs ps) : Tks b base ((rowL says ++ cs.flatMap (rowOfC says)) :: rs) ps
theorem Tks.snoc {b : Bool} {base ps : List PairV} {rs : List (List UInt8)} {says : Nat} {cs : List ChgV} (h : Tks b base rs ps) (hK : TakeOk ps cs says (b && rs.isEmpty)) : Tks b base (rs ++ [rowL says ++ cs.flatMap (rowOfC says)]) (allB ps cs) := by
 induction h with
 | nil =>
  refine Tks.step (b := _) ?_ Tks.nil
  simpa using hK
 | step hK2 _ ih => exact Tks.step hK2 (ih (by simpa using hK))
theorem recC_rows (cs : List ChgV) : recC cs = rowL 0 ++ cs.flatMap (rowOfC 0) := by
 have e : chgRow = rowOfC 0 := funext fun c => by
  unfold chgRow rowOfC conL
  cases c.v <;> rfl
 unfold recC
 rw [e]
theorem recW_rows (ps : List PairV) : recW ps = rowL 1 ++ (ps.map fun p => (⟨p.table, p.key, some p.value⟩ : ChgV)).flatMap (rowOfC 1) := by
 unfold recW
 rw [List.flatMap_map]
 rfl
theorem look_nil (t k : ByteArray) : lookP [] t k = none := rfl
theorem allB_whole {ps : List PairV} (h : Rise ps) : allB [] (ps.map fun p => (⟨p.table, p.key, some p.value⟩ : ChgV)) = ps := by
 refine look_ext (rise_allB _ List.Pairwise.nil) h fun t k => ?_
 rw [look_allB _ List.Pairwise.nil, look_nil]
 cases hp : lookP ps t k with
 | none =>
  rw [chgOf_none]
  ·rfl
  ·intro c hc e
   obtain ⟨p, hm, rfl⟩ := List.mem_map.1 hc
   have := (look_mem h).1 hm
   obtain ⟨e1, e2⟩ := e
   simp only at e1 e2
   rw [e1, e2, this] at hp
   cases hp
 | some v =>
  have hm := (look_iff h).1 hp
  have hn : ((ps.map fun p => (⟨p.table, p.key, some p.value⟩ : ChgV)).map fun c => (c.t, c.k)).Nodup := by
   refine riseC_nodup (List.pairwise_map.2 (h.imp fun {a b} hab => ?_))
   unfold lessC
   rw [lessP_key (q := ⟨b.table, b.key, emB⟩) (r := b) rfl rfl, lessP_key' (p := b) (q := ⟨a.table, a.key, emB⟩) (r := a) rfl rfl]
   exact hab
  have := chgOf_one hn (c := ⟨t, k, some v⟩) (List.mem_map.2 ⟨_, hm, rfl⟩)
  rw [this]; rfl
theorem TakeOk.ofC {base : List PairV} {cs : List ChgV} (b : Bool) (hb : Rise base) (hf : base.length ≤ 500) (h : RightC base cs) (hl : (recC cs).length ≤ 60000) : TakeOk base cs 0 b :=
 ⟨h.ok, h.rise, h.does, h.most, Or.inl ⟨rfl, h.some_⟩, by rw [← recC_rows]; exact hl, hb, hf⟩
theorem TakeOk.ofW {ps : List PairV} (h : RightW ps) (hl : (recW ps).length ≤ 60000) : TakeOk [] (ps.map fun p => (⟨p.table, p.key, some p.value⟩ : ChgV)) 1 true := by
 refine ⟨fun c hc => ?_, List.pairwise_map.2 (h.rise.imp fun {a b} hab => ?_), fun c hc => ?_, by rw [allB_whole h.rise]; exact h.most, Or.inr ⟨rfl, rfl, fun c hc => ?_⟩, by rw [← recW_rows]; exact hl, List.Pairwise.nil, Nat.zero_le _⟩
 ·obtain ⟨p, hm, rfl⟩ := List.mem_map.1 hc
  exact h.ok p hm
 ·unfold lessC
  rw [lessP_key (q := ⟨b.table, b.key, emB⟩) (r := b) rfl rfl, lessP_key' (p := b) (q := ⟨a.table, a.key, emB⟩) (r := a) rfl rfl]
  exact hab
 ·obtain ⟨p, hm, rfl⟩ := List.mem_map.1 hc
  unfold Does
  rw [look_nil]; simp
 ·obtain ⟨p, hm, rfl⟩ := List.mem_map.1 hc
  rfl
theorem Says.tks {rs : List (List UInt8)} {ps : List PairV} (h : Says rs ps) (hl : ∀ r ∈ rs, r.length ≤ 60000) : Tks true [] rs ps := by
 induction h with
 | none_ => exact Tks.nil
 | whole h =>
  rename_i qs
  have := Tks.step (TakeOk.ofW h (hl _ List.mem_cons_self)) (Tks.nil (b := false))
  rw [← recW_rows, allB_whole h.rise] at this
  exact this
 | more h hc ih =>
  have hr := h.right
  have := (ih fun r hm => hl r (List.mem_append_left _ hm)).snoc (TakeOk.ofC _ hr.1 hr.2.2 hc (hl _ (List.mem_append_right _ List.mem_cons_self)))
  rw [← recC_rows] at this
  exact this
structure TnAt (w wr : World) (S M J : Nat) (v : Value) (rs : List (List UInt8)) (ps : List PairV) (i : Nat) : Prop where
 map : ∃ base n, KMap wr M n (comF base) ∧ Tks (decide (i = 0)) base (rs.drop i) ps
 obj : wr.heap[S]? = some (.cells #[.pointer (some ⟨J, 0, none⟩), .map (some M), .map none] 61 (0, 0))
 own : OwnS w.heap.size wr v rs
 below : Below w.heap.size w wr
 ge : w.heap.size ≤ M ∧ w.heap.size ≤ S ∧ ∀ g, v.ownBlock = some g → g ≠ M
theorem TnAt.next {w wr w2 : World} {S M J i n' : Nat} {v : Value} {rs rs' : List (List UInt8)} {ps base : List PairV} (h : TnAt w wr S M J v rs ps i) (hm : KMap w2 M n' (comF base)) (hk : Tks false base rs' ps) (hd : rs.drop (i + 1) = rs') (hu : Upd [M] wr w2) : TnAt w w2 S M J v rs ps (i + 1) := by
 obtain ⟨g1, g2, g3⟩ := h.ge
 have hSM : S ≠ M := fun e => by
  obtain ⟨b0, n0, hm0, _⟩ := h.map
  have h1 := hm0.nocell 0
  rw [← e, cell_at h.obj (k := 0) rfl] at h1
  cases h1
 refine ⟨⟨base, n', hm, by rw [hd]; simpa using hk⟩, ?_, h.own.kept fun g hg => hu.block g (h.own.lt hg).2 (by simpa using g3 g hg), ?_, h.ge⟩
 ·exact (hu.block S (lt_of_heap h.obj) (by simpa using hSM)).trans h.obj
 ·have hb := h.below
  exact ⟨hu.os.trans hb.os, hu.tape.trans hb.tape, hu.output.trans hb.output, Nat.le_trans hb.size hu.size, fun k hk => (hu.block k (Nat.lt_of_lt_of_le hk hb.size) (by simp; omega)).trans (hb.block k hk)⟩
theorem ownS_cell {B g n c : Nat} {w : World} {ts : List (List UInt8)} (h : OwnS B w (.slice (some ⟨g, 0, none⟩) n c) ts) (k : Nat) (hk : k < ts.length) : w.cell? ⟨g, k, none⟩ = some (sV ts[k]) := by
 rcases h.shape with ⟨hv, _⟩ | ⟨g', cap', hv, _, _, hc⟩
 ·cases hv
 ·injection hv with hv1 _ _
  injection hv1 with hv1
  injection hv1 with hv1
  subst hv1
  exact hc k hk
theorem makeK (W : World) : (Instr.makeMap 59 none).run Tryz.prog W = .ok (.map (some W.heap.size)) (W.alloc (.map #[] 0)) := by kernel_rfl
set_option maxHeartbeats 1600000 in
set_option maxRecDepth 100000 in
theorem taken_any (w : World) (J : Nat) (D : DskP) (d : DskV) (h : HeadV) (hJ : JnlAt w J D.p h false) (hD : DskAt w D d) (hok : DskOk d) (hd : d.dead = false) (rs : List (List UInt8)) (hi : ImgOk d.ws h rs) (ps : List PairV) (hr : Says rs ps) (hS : StdX w) :
  Calls Tryz.prog 36 #[.pointer (some ⟨J, 0, none⟩)] w fun e w' => ∃ S M n, e = .returned (.tuple #[.pointer (some ⟨S, 0, none⟩), .int .i64 0]) ∧ w'.heap[S]? = some (.cells #[.pointer (some ⟨J, 0, none⟩), .map (some M), .map none] 61 (0, 0)) ∧ KMap w' M n (comF ps) ∧ w.heap.size ≤ S ∧ w.heap.size ≤ M ∧ Below w.heap.size w w' := by
 have HRC : Hid (Calls Tryz.prog 41 #[.pointer (some ⟨J, 0, none⟩)] w fun e w' => ∃ v', e = .returned (.tuple #[v', .int .i64 0]) ∧ OwnS w.heap.size w' v' rs ∧ Below w.heap.size w w') := Lib.hid (jrecords_any w J D d h hJ hD hok hd rs hi)
 have HRL : Hid (rs.length ≤ 1000000) := Lib.hid (by
  have h1 := recs_len rs
  have h2 := hi.tot
  have h3 := hi.used
  have h4 := areaN_le hok
  have e : arN d.ws = areaN d := rfl
  omega)
 have HTK : Hid (Tks true [] rs ps) := Lib.hid (hr.tks hi.lens)
 have HSX : Hid (∀ W, Below w.heap.size w W → StdX W) := Lib.hid fun W hW => hS.below hW
 have HTA : Hid (∀ W M n b base r, Below w.heap.size w W → KMap W M n (comF base) → ∀ says cs, TakeOk base cs says b → r = rowL says ++ cs.flatMap (rowOfC says) → Calls Tryz.prog 58 #[.map (some M), .string (bOf r), .bool b] W fun e w' => e = .returned (.bool true) ∧ (∃ n', KMap w' M n' (comF (allB base cs))) ∧ Upd [M] W w') := Lib.hid fun W M n b base r hW hm says cs hK e => by
  subst e
  exact take_any W M n base cs says b hK hm (hS.below hW)
 have HST : Hid (∀ w1 v, OwnS w.heap.size w1 v rs → Below w.heap.size w w1 → TnAt w ((w1.alloc (Obj.map #[] 0)).alloc (Obj.cells #[.pointer (some ⟨J, 0, none⟩), .map (some w1.heap.size), .map none] 61)) (w1.heap.size + 1) w1.heap.size J v rs ps 0) := Lib.hid fun w1 v ho hb => by
  have hb1 : Below w1.heap.size w1 (w1.alloc (Obj.map #[] 0)) := (Below.refl _ w1).alloc (Nat.le_refl _) _
  have hb2 : Below (w1.alloc (Obj.map #[] 0)).heap.size (w1.alloc (Obj.map #[] 0)) ((w1.alloc (Obj.map #[] 0)).alloc (Obj.cells #[.pointer (some ⟨J, 0, none⟩), .map (some w1.heap.size), .map none] 61)) := (Below.refl _ _).alloc (Nat.le_refl _) _
  have hz : (w1.alloc (Obj.map #[] 0)).heap.size = w1.heap.size + 1 := by simp
  refine ⟨⟨[], 0, (KMap.made w1).below hb2, by simpa using HTK.out⟩, ?_, (ho.below hb1).below hb2, (hb.trans (hb1.mono hb.size)).trans (hb2.mono (by rw [hz]; have := hb.size; omega)), hb.size, by have := hb.size; omega, fun g hg => by have := (ho.lt hg).2; omega⟩
  rw [← hz]
  exact heap_alloc_new _ _
 have hmk := makeK
 have hln : ∀ (W : World) (a : Option Addr) (n c : Nat), (Builtin.len_ #[89] 3 #[.slice a n c]).run Tryz.prog W = .ok (.int .i64 n) W := fun W a n c => run_len_slice W 89 3 a n c (by kernel_rfl)
 clear hJ hD hok hd hi hr hS
 go_enter Tryz.func36, Tryz.ntmps36
 go_wp2_with (go_at_call 41; refine HRC.out.mono ?_; rintro e w1 ⟨v, rfl, ho1, hb1⟩; have H1 := Lib.hid (And.intro ho1 hb1); clear ho1 hb1)
 rcases H1.out.1.shape with ⟨hv, hrs⟩ | ⟨g, cap, hv, hg, hg2, hc⟩
 ·subst hv hrs
  go_wp2
  rw [hln]
  simp only [Result.andThen]
  rw [Oper.upon_value]
  go_wp2
  have HT0 := Lib.hid (HST.out w1 _ H1.out.1 H1.out.2)
  refine wp_loop_rounds 1 ?_
  rw [rounds_succ]
  go_wp2
  go_ret2
  have hT := HT0.out
  obtain ⟨base, n, hm, hk⟩ := hT.map
  cases hk
  exact ⟨_, _, n, rfl, hT.obj, hm, hT.ge.2.1, hT.ge.1, hT.below⟩
 ·subst hv
  have HT0 := Lib.hid (HST.out w1 _ H1.out.1 H1.out.2)
  clear hg hg2 hc
  go_wp2
  rw [hln]
  simp only [Result.andThen]
  rw [Oper.upon_value]
  go_wp2
  obtain ⟨M, hM⟩ : ∃ M, w1.heap.size = M := ⟨_, rfl⟩
  obtain ⟨S, hS⟩ : ∃ S, M + 1 = S := ⟨_, rfl⟩
  rw [hM, hS] at HT0 ⊢
  clear hM hS
  go_loopw [23] (fun i wr => ∃ j : Nat, i = .int .i64 j ∧ j ≤ rs.length ∧ Hid (TnAt w wr S M J (.slice (some ⟨g, 0, none⟩) rs.length cap) rs ps j)) (fun i _ => rs.length - (intOf i).toNat)
  case atStart => exact ⟨0, rfl, Nat.zero_le _, HT0⟩
  case round =>
   obtain ⟨j, rfl, hj, HR⟩ := hrel
   by_cases hlt : j < rs.length
   ·have hdrop : rs.drop j = rs[j] :: rs.drop (j + 1) := List.drop_eq_getElem_cons hlt
    obtain ⟨r, hr⟩ : ∃ r, rs[j] = r := ⟨_, rfl⟩
    have c0 := ownS_cell HR.out.own j hlt
    rw [hr] at hdrop c0
    unfold sV at c0
    obtain ⟨base, n, hm, hk⟩ := HR.out.map
    rw [hdrop] at hk
    have q0 : (0 : Int) ≤ j := by omega
    have q1 : (j : Int) < (rs.length : Int) := by omega
    have hobj := HR.out.obj
    have s1 := cell_at hobj (k := 1) rfl
    obtain ⟨bb, hbb⟩ : ∃ bb, decide (j = 0) = bb := ⟨_, rfl⟩
    have hq : ((j : Int) == 0) = bb := by rw [← hbb, Bool.eq_iff_iff]; simp
    rw [hbb] at hk
    have hNX := fun base n' w2 hm2 hk2 hu => HR.out.next (w2 := w2) (base := base) (n' := n') (rs' := rs.drop (j + 1)) hm2 hk2 rfl hu
    have HTK2 : Hid (Calls Tryz.prog 58 #[.map (some M), .string (bOf r), .bool bb] wr fun e w' => e = .returned (.bool true) ∧ TnAt w w' S M J (.slice (some ⟨g, 0, none⟩) rs.length cap) rs ps (j + 1)) := Lib.hid (by
     cases hk with
     | step hK hk2 => exact (HTA.out wr M n bb base _ HR.out.below hm _ _ hK rfl).mono fun e w' ⟨he, ⟨n', hm'⟩, hu⟩ => ⟨he, hNX _ n' w' hm' hk2 hu⟩)
    have HLT := Lib.hid hlt
    have hw1 : IntKind.i64.wrap ((j : Int) + 1) = ((j + 1 : Nat) : Int) := by have := HRL.out; rw [IntWalk.i64_in _ (by omega)]; omega
    clear hNX hm hk hdrop hr hobj hbb hlt
    go_wp2_with (go_at_call 58; refine HTK2.out.mono ?_; rintro e w3 ⟨rfl, h3⟩; have H3 := Lib.hid h3; clear h3)
    go_roundw
    case rel => exact ⟨j + 1, rfl, HLT.out, H3⟩
    case measure => have := HLT.out; simp [intOf]; omega
   ·have e : j = rs.length := by omega
    subst e
    have q1 : ¬ (rs.length : Int) < (rs.length : Int) := by omega
    go_wp2
    go_ret2
    have hT := HR.out
    obtain ⟨base, n, hm, hk⟩ := hT.map
    rw [List.drop_length] at hk
    cases hk
    exact ⟨_, rfl, _, hT.obj, ⟨n, hm⟩, hT.ge.2.1, hT.ge.1, hT.below⟩
end Go.Proofs.YtlommddabccdeaaGreatDoor

namespace Go.Proofs.YtlommddabccdeaaGreatDoor
open Go.ChangeShapes Go.WideShapes Go.ChangeAt Go.RowKit

structure StoX where
 h : HeadV
 rs : List (List UInt8)
 ps : List PairV
 nx : List PairV
 opn : Bool
structure StoM (w : World) (S p J C : Nat) (og : Option Nat) (X : StoX) : Prop where
 obj : w.heap[S]? = some (.cells #[.pointer (some ⟨J, 0, none⟩), .map (some C), .map og] 61 (0, 0))
 jnl : JnlAt w J p X.h false
 com : ∃ n, KMap w C n (comF X.ps)
 chg : X.opn = og.isSome ∧ ∀ G, og = some G → G ≠ C ∧ ∃ m, KMap w G m (chgF X.ps X.nx)
def StoAt (w : World) (S p : Nat) (FS : List Nat) (X : StoX) : Prop := ∃ J C og, StoM w S p J C og X ∧ FS = S :: J :: C :: og.toList
theorem StoM.lts {w : World} {S p J C : Nat} {og : Option Nat} {X : StoX} (h : StoM w S p J C og X) : S < w.heap.size ∧ J < w.heap.size ∧ C < w.heap.size ∧ ∀ G, og = some G → G < w.heap.size := by
 obtain ⟨n, hc⟩ := h.com
 exact ⟨lt_of_heap h.obj, lt_of_heap h.jnl, hc.lt, fun G e => by
  obtain ⟨_, m, hm⟩ := h.chg.2 G e
  exact hm.lt⟩
theorem StoM.kept {w w' : World} {S p J C : Nat} {og : Option Nat} {X : StoX} (h : StoM w S p J C og X) (hk : ∀ k ∈ S :: J :: C :: og.toList, w'.heap[k]? = w.heap[k]?) : StoM w' S p J C og X := by
 obtain ⟨n, hc⟩ := h.com
 refine ⟨(hk S (by simp)).trans h.obj, (hk J (by simp)).trans h.jnl, ⟨n, hc.same (hk C (by simp))⟩, h.chg.1, fun G e => ?_⟩
 obtain ⟨h1, m, hm⟩ := h.chg.2 G e
 exact ⟨h1, m, hm.same (hk G (by simp [e]))⟩
theorem StoAt.kept {w w' : World} {S p : Nat} {FS : List Nat} {X : StoX} (h : StoAt w S p FS X) (hk : ∀ k ∈ FS, w'.heap[k]? = w.heap[k]?) : StoAt w' S p FS X := by
 obtain ⟨J, C, og, h1, rfl⟩ := h
 exact ⟨J, C, og, h1.kept hk, rfl⟩
theorem StoAt.lt {w : World} {S p : Nat} {FS : List Nat} {X : StoX} (h : StoAt w S p FS X) : ∀ k ∈ FS, k < w.heap.size := by
 obtain ⟨J, C, og, h1, rfl⟩ := h
 obtain ⟨a, b, c, d⟩ := h1.lts
 intro k hk
 simp only [List.mem_cons, Option.mem_toList] at hk
 rcases hk with rfl | rfl | rfl | hk
 ·exact a
 ·exact b
 ·exact c
 ·exact d k hk
theorem StoM.ne {w : World} {S p J C : Nat} {og : Option Nat} {X : StoX} (h : StoM w S p J C og X) : S ≠ J ∧ S ≠ C ∧ J ≠ C ∧ ∀ G, og = some G → S ≠ G ∧ J ≠ G := by
 obtain ⟨n, hc⟩ := h.com
 have s0 := cell_at h.obj (k := 0) rfl
 have s1 := cell_at h.obj (k := 1) rfl
 have j1 := cell_at h.jnl (k := 1) rfl
 refine ⟨fun e => ?_, fun e => ?_, fun e => ?_, fun G e => ⟨fun e2 => ?_, fun e2 => ?_⟩⟩
 ·rw [e, j1] at s1; cases s1
 ·rw [e, hc.nocell] at s0; cases s0
 ·rw [e, hc.nocell] at j1; cases j1
 ·obtain ⟨_, m, hm⟩ := h.chg.2 G e
  rw [e2, hm.nocell] at s0; cases s0
 ·obtain ⟨_, m, hm⟩ := h.chg.2 G e
  rw [e2, hm.nocell] at j1; cases j1
structure StoOk (w : World) (S : Nat) (D : DskP) (d : DskV) (FS : List Nat) (X : StoX) : Prop where
 sto : StoAt w S D.p FS X
 dsk : DskAt w D d
 set : Settled d
 img : ImgOk d.ws X.h X.rs
 rds : Says X.rs X.ps
 rise : Rise X.ps ∧ (∀ p ∈ X.ps, okP p = true) ∧ X.ps.length ≤ 500
 nrise : X.opn = true → Rise X.nx ∧ ∀ p ∈ X.nx, okP p = true
 apart : ∀ k ∈ FS, k ∉ D.F
def StoStep (w : World) (S p : Nat) (FS : List Nat) (X' : StoX) (w' : World) : Prop :=
 ∃ FS', StoAt w' S p FS' X' ∧ Upd FS w w' ∧ ∀ k ∈ FS', k ∈ FS ∨ w.heap.size ≤ k
theorem jgen_any (w : World) (J : Nat) (D : DskP) (d : DskV) (h : HeadV) (hJ : JnlAt w J D.p h false) (hD : DskAt w D d) (hd : d.dead = false) :
  Calls Tryz.prog 59 #[.pointer (some ⟨J, 0, none⟩)] w fun e w' => e = .returned (.int .i64 h.gen) ∧ w = w' := by
 have HL := Lib.hid (lives_any w J D d h false hJ hD)
 rw [hd] at HL
 have c1 := cell_at hJ (k := 1) rfl
 clear hJ hD hd
 go_enter Tryz.func59, Tryz.ntmps59
 go_wp2_with (go_at_call 66; refine HL.out.mono ?_; rintro e w2 ⟨rfl, rfl⟩)
 go_ret
 exact ⟨rfl, rfl⟩
theorem slives_any (w : World) (S J C : Nat) (og : Option Nat) (D : DskP) (d : DskV) (X : StoX) (h : StoM w S D.p J C og X) (hD : DskAt w D d) (hd : d.dead = false) :
  Calls Tryz.prog 37 #[.pointer (some ⟨S, 0, none⟩)] w fun e w' => e = .returned (.bool true) ∧ w = w' := by
 have HG := Lib.hid (jgen_any w J D d X.h h.jnl hD hd)
 have c0 := cell_at h.obj (k := 0) rfl
 obtain ⟨GN, hGN⟩ : ∃ GN : Int, (X.h.gen : Int) = GN := ⟨_, rfl⟩
 have q1 : (0 : Int) ≤ GN := by omega
 rw [hGN] at HG
 clear h hD hd hGN
 go_enter Tryz.func37, Tryz.ntmps37
 go_wp2_with (go_at_call 59; refine HG.out.mono ?_; rintro e w2 ⟨rfl, rfl⟩)
 go_ret
 exact ⟨rfl, rfl⟩
theorem run_neq_map_nil (t k e : TypeId) (p : Option Nat) (w : World) (h : Tryz.prog.underlying t = some (.map k e)) : (binOp .neq t (.map p) (.map none)).run Tryz.prog w = .ok (.bool p.isSome) w := by
 cases p
 ·simp only [binOp]
  simp [show Op.equal t (.map none) (.map none) = Op.equalIn (9999 + 1) t (.map none) (.map none) from rfl, run_equalIn_map_nil_sl w 9999 t k e none h]
 ·rename_i x
  simp only [binOp]
  simp [show Op.equal t (.map (some x)) (.map none) = Op.equalIn (9999 + 1) t (.map (some x)) (.map none) from rfl, run_equalIn_map_nil_sl w 9999 t k e (some x) h]
set_option maxRecDepth 100000 in
theorem scheck_any (w : World) (S J C : Nat) (og : Option Nat) (D : DskP) (d : DskV) (X : StoX) (h : StoM w S D.p J C og X) (hD : DskAt w D d) (hd : d.dead = false) (b : Bool) :
  Calls Tryz.prog 25 #[.pointer (some ⟨S, 0, none⟩), .bool b] w fun e w' => e = .returned (.int .i64 (if b = X.opn then 0 else 151)) ∧ w = w' := by
 have HL := Lib.hid (slives_any w S J C og D d X h hD hd)
 have c2 : w.cell? ⟨S, 2, none⟩ = some (.map og) := cell_at h.obj (k := 2) rfl
 have hop := h.chg.1
 have hq := run_neq_map_nil 59 _ _ og w Tryz.underlying59
 rw [hop]
 clear h hD hd hop
 cases og <;> cases b
 all_goals
  simp only [Option.isSome_none, Option.isSome_some, if_true, if_false, Bool.true_eq_false, Bool.false_eq_true] at hq ⊢
  go_enter Tryz.func25, Tryz.ntmps25
  go_wp2_with (go_at_call 37; refine HL.out.mono ?_; rintro e w2 ⟨rfl, rfl⟩)
  go_ret
  exact ⟨rfl, rfl⟩
theorem forget_d (w : World) (u : FrameMode) (S J C : Nat) (og : Option Nat) (h : w.heap[S]? = some (.cells #[.pointer (some ⟨J, 0, none⟩), .map (some C), .map og] 61 (0, 0))) :
  CallsD Tryz.prog 28 #[.pointer (some ⟨S, 0, none⟩)] u w fun e u' w' => u' = u ∧ (e = .returned (.tuple #[]) ∧ w' = w.setCell ⟨S, 2, none⟩ (.map none)) := by
 have c2 := cell_at h (k := 2) rfl
 have f2 := free_at h (k := 2)
 clear h
 go_enter_d Tryz.func28, Tryz.ntmps28
 go_wp2
 go_end0
 exact ⟨rfl, rfl⟩
theorem StoM.changed {w w' : World} {S p J C : Nat} {og og' : Option Nat} {X : StoX} {nx : List PairV} {opn : Bool} (h : StoM w S p J C og X) (hobj : w'.heap[S]? = some (.cells #[.pointer (some ⟨J, 0, none⟩), .map (some C), .map og'] 61 (0, 0)))
  (hk : ∀ k, k = J ∨ k = C → w'.heap[k]? = w.heap[k]?) (hc : opn = og'.isSome ∧ ∀ G, og' = some G → G ≠ C ∧ ∃ m, KMap w' G m (chgF X.ps nx)) : StoM w' S p J C og' { X with nx := nx, opn := opn } := by
 obtain ⟨n, hm⟩ := h.com
 exact ⟨hobj, (hk J (Or.inl rfl)).trans h.jnl, ⟨n, hm.same (hk C (Or.inr rfl))⟩, hc⟩
theorem chgF_same (ps : List PairV) (t k : ByteArray) : chgF ps ps t k = none := by unfold chgF; rw [if_pos rfl]
set_option maxRecDepth 100000 in
theorem begin_any (w : World) (S : Nat) (D : DskP) (d : DskV) (FS : List Nat) (X : StoX) (h : StoOk w S D d FS X) (ho : X.opn = false) :
  Calls Tryz.prog 9 #[.pointer (some ⟨S, 0, none⟩)] w fun e w' => e = .returned (.int .i64 0) ∧ StoStep w S D.p FS { X with opn := true, nx := X.ps } w' := by
 obtain ⟨J, C, og, hM, rfl⟩ := h.sto
 have hog : og = none := by
  have := hM.chg.1
  rw [ho] at this
  cases og with
  | none => rfl
  | some G => cases this
 subst hog
 have HCK : Hid (Calls Tryz.prog 25 #[.pointer (some ⟨S, 0, none⟩), .bool false] w fun e w' => e = .returned (.int .i64 0) ∧ w = w') := Lib.hid (by
  have := scheck_any w S J C none D d X hM h.dsk h.set.live false
  rw [if_pos ho.symm] at this
  exact this)
 have hmk := makeK
 have HF : Hid (StoStep w S D.p (S :: J :: C :: (none : Option Nat).toList) { X with opn := true, nx := X.ps } ((w.alloc (.map #[] 0)).setCell ⟨S, 2, none⟩ (.map (some w.heap.size)))) := Lib.hid (by
  obtain ⟨l1, l2, l3, _⟩ := hM.lts
  obtain ⟨n1, n2, n3, _⟩ := hM.ne
  have hb : Below w.heap.size w (w.alloc (.map #[] 0)) := (Below.refl _ w).alloc (Nat.le_refl _) _
  have hS := (hb.block S l1).trans hM.obj
  refine ⟨S :: J :: C :: (some w.heap.size).toList, ⟨J, C, some w.heap.size, hM.changed (by rw [heap_set_at hS]; rfl) (fun k hk => ?_) ⟨rfl, fun G e => ?_⟩, rfl⟩, ?_, fun k hk => ?_⟩
  ·rw [Below.heap_setCell _ _ _ _ (by show k ≠ S; rcases hk with rfl | rfl <;> omega)]
   exact hb.block k (by rcases hk with rfl | rfl <;> assumption)
  ·injection e with e
   subst e
   refine ⟨by omega, 0, ?_⟩
   refine KMap.same (w := w.alloc (.map #[] 0)) ((KMap.made w).ext fun t k => (chgF_same X.ps t k).symm) ?_
   rw [Below.heap_setCell _ _ _ _ (by show w.heap.size ≠ S; omega)]
  ·exact (Upd.of_below hb).setCell (p := ⟨S, 2, none⟩) (Or.inl List.mem_cons_self) _
  ·simp at hk
   rcases hk with rfl | rfl | rfl | rfl
   ·left; simp
   ·left; simp
   ·left; simp
   ·right; exact Nat.le_refl _)
 have hS1 := hM.lts.1
 have c2 : (w.alloc (.map #[] 0)).cell? ⟨S, 2, none⟩ = some (.map none) := cell_at ((((Below.refl _ w).alloc (Nat.le_refl _) (.map #[] 0)).block S hS1).trans hM.obj) (k := 2) rfl
 have f2 : (w.alloc (.map #[] 0)).frozen? ⟨S, 2, none⟩ = false := free_at ((((Below.refl _ w).alloc (Nat.le_refl _) (.map #[] 0)).block S hS1).trans hM.obj)
 clear h ho hM hS1
 go_enter Tryz.func9, Tryz.ntmps9
 go_wp2_with (go_at_call 25; refine HCK.out.mono ?_; rintro e w2 ⟨rfl, rfl⟩)
 go_ret
 exact ⟨rfl, HF.out⟩
theorem get_any (w : World) (S : Nat) (D : DskP) (d : DskV) (FS : List Nat) (X : StoX) (h : StoOk w S D d FS X) (t k : ByteArray) (ht : t.size ≤ 1000) (hk : k.size ≤ 1000) :
  Calls Tryz.prog 21 #[.pointer (some ⟨S, 0, none⟩), .string t, .string k] w fun e w' => e = .returned (.tuple #[.string ((lookP X.ps t k).getD emB), .bool (lookP X.ps t k).isSome]) ∧ Below w.heap.size w w' := by
 obtain ⟨J, C, og, hM, rfl⟩ := h.sto
 have HLV := Lib.hid (slives_any w S J C og D d X hM h.dsk h.set.live)
 have c1 := cell_at hM.obj (k := 1) rfl
 obtain ⟨n, hm⟩ := hM.com
 have hlook : (Instr.lookup 59 (.map (some C)) (.agg #[.string t, .string k]) false).run Tryz.prog w = .ok (.agg #[.bool (lookP X.ps t k).isSome, .string ((lookP X.ps t k).getD emB)]) w :=
  hm.look Tryz.underlying59 (zeroC w) t k (by unfold maxLen; omega) (by unfold maxLen; omega) (by rw [comF_getD]; cases lookP X.ps t k <;> rfl)
 generalize (lookP X.ps t k).isSome = B at *
 generalize (lookP X.ps t k).getD emB = V at *
 have HB : Hid (∀ o, Below w.heap.size w (w.alloc o)) := Lib.hid fun o => (Below.refl _ w).alloc (Nat.le_refl _) _
 clear h hM hm ht hk
 go_enter Tryz.func21, Tryz.ntmps21
 go_wp2_with (go_at_call 37; refine HLV.out.mono ?_; rintro e w2 ⟨rfl, rfl⟩)
 have c0' : (w.alloc (Obj.cells #[.bool B, .string V] 68)).cell? ⟨w.heap.size, 0, none⟩ = some (.bool B) := new0 rfl rfl
 have c1' : (w.alloc (Obj.cells #[.bool B, .string V] 68)).cell? ⟨w.heap.size, 1, none⟩ = some (.string V) := new1 rfl rfl
 go_quiet (fail)
 go_wp2
 go_ret2
 exact ⟨rfl, below_drawN (HB.out _) _⟩
end Go.Proofs.YtlommddabccdeaaGreatDoor
