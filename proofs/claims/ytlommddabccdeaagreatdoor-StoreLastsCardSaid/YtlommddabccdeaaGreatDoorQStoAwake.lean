/-
  StoLsR, StoAwake.
-/
import Derived.Test.YtlommddabccdeaaGreatDoorQStoLsK
namespace Go.Proofs.YtlommddabccdeaaGreatDoor
open Go.ChangeShapes Go.WideShapes Go.ChangeAt Go.RowKit

theorem outOf_sub : ∀ {ks ps : List Nat}, ks.Sublist ps → OutOf ps ks
 | [], ps, _ => by cases ps <;> trivial
 | k :: r, ps, h => by
  have h2 := h.erase k
  rw [List.erase_cons_head] at h2
  have := outOf_sub h2
  cases ps with
  | nil => exact absurd h (by simp)
  | cons p ps => exact ⟨h.subset List.mem_cons_self, this⟩
structure Two0 (w0 w : World) (F : List Nat) (ax : Option Addr) (now : List PairV) (bx : Option Addr) (next : List PairV) : Prop where
 frm : Frm w0 w F
 fa : FarP w F ax now
 fb : FarP w F bx next
theorem Two0.step {w0 w w' : World} {F F' : List Nat} {ax bx : Option Addr} {now next : List PairV} (h : Two0 w0 w F ax now bx next) (hu : Upd F w w') (hF : ∀ k ∈ F', k ∈ F ∨ w.heap.size ≤ k) : Two0 w0 w' F' ax now bx next :=
 ⟨h.frm.step hu hF, h.fa.step hu hF, h.fb.step hu hF⟩
structure LsDead (w0 w : World) (P : Nat) (ax : Option Addr) (now : List PairV) (bx : Option Addr) (next : List PairV) (t : Nat) (D : DskP) (d : DskV) (F : List Nat) : Prop where
 p : D.p = P
 dsk : DskAt w D d
 ok : DskOk d
 two : Two0 w0 w F ax now bx next
 sub : ∀ k ∈ D.F, k ∈ F
 mix : ∀ img, Mixed d img → ∃ h rs ps, ImgOk img h rs ∧ Says rs ps ∧ (ps = now ∨ ps = next) ∧ h.gen ≤ t + 1
 set : d.armed ≤ 9223372036854775807
 rn : Rise now ∧ (∀ p ∈ now, okP p = true) ∧ Of60 now
 rx : Rise next ∧ (∀ p ∈ next, okP p = true) ∧ Of60 next
structure LsOp (w0 w : World) (P S : Nat) (ax : Option Addr) (now : List PairV) (bx : Option Addr) (next : List PairV) (t : Nat) (D : DskP) (d : DskV) (FS : List Nat) (X : StoX) : Prop where
 p : D.p = P
 ok : StoOk w S D d FS X
 two : Two0 w0 w (FS ++ D.F) ax now bx next
 ps : X.ps = now ∨ X.ps = next
 opn : X.opn = false
 gen : X.h.gen ≤ t + 1
 rn : Rise now ∧ (∀ p ∈ now, okP p = true) ∧ Of60 now
 rx : Rise next ∧ (∀ p ∈ next, okP p = true) ∧ Of60 next
section
variable {w0 w w' : World} {P S t : Nat} {ax bx : Option Addr} {now next xs : List PairV} {b : Bool} {D : DskP} {d d' : DskV} {F FS FS' : List Nat} {X X' : StoX} {v' : Value}
theorem vp_F {B : Nat} (hi : ∀ g, v'.ownBlock = some g → D.vp.ownBlock = some g ∨ B ≤ g) : ∀ k ∈ ({ D with vp := v' } : DskP).F, k ∈ D.F ∨ B ≤ k := by
 intro k hk
 unfold DskP.F at hk ⊢
 simp only [List.mem_cons, Option.mem_toList] at hk ⊢
 rcases hk with h | h | h | h
 ·exact .inl (.inl h)
 ·exact .inl (.inr (.inl h))
 ·exact .inl (.inr (.inr (.inl h)))
 ·rcases hi k h with h1 | h1
  ·exact .inl (.inr (.inr (.inr h1)))
  ·exact .inr h1
theorem app_F {B : Nat} {D' : DskP} (h1 : ∀ k ∈ FS', k ∈ FS ∨ B ≤ k) (h2 : ∀ k ∈ D'.F, k ∈ D.F ∨ B ≤ k) : ∀ k ∈ FS' ++ D'.F, k ∈ FS ++ D.F ∨ B ≤ k := by
 intro k hk
 rcases List.mem_append.1 hk with h | h
 ·rcases h1 k h with h3 | h3
  ·exact .inl (List.mem_append_left _ h3)
  ·exact .inr h3
 ·rcases h2 k h with h3 | h3
  ·exact .inl (List.mem_append_right _ h3)
  ·exact .inr h3
theorem LsAt.two (h : LsAt w0 w P S ax now bx next xs b t D d FS X) : Two0 w0 w (FS ++ D.F) ax now bx next := ⟨h.frm, h.fa, h.fb⟩
theorem LsAt.went (h : LsAt w0 w P S ax now bx xs xs true t D d FS X) (hu : Upd (FS ++ D.F) w w') (hi : ∀ g, v'.ownBlock = some g → D.vp.ownBlock = some g ∨ w.heap.size ≤ g)
  (ho : StoOk w' S { D with vp := v' } d' FS' X') (hf : ∀ k ∈ FS', k ∈ FS ∨ w.heap.size ≤ k) (e1 : X'.ps = X.nx) (e2 : X'.opn = false) (e3 : X'.h.gen ≤ X.h.gen + 1) :
  LsAt w0 w' P S bx xs bx xs xs false (t + 1) { D with vp := v' } d' FS' X' := by
 have h2 := h.two.step hu (app_F hf (vp_F hi))
 exact ⟨h.p, ho, h2.frm, h2.fb, h2.fb, by rw [e1, h.nx rfl], e2, nofun, fun _ => rfl, h.rx, ⟨h.of.2, h.of.2⟩, by have := h.gen; omega⟩
theorem LsAt.full (h : LsAt w0 w P S ax now bx xs xs true t D d FS X) (hu : Upd (FS ++ D.F) w w') (hi : ∀ g, v'.ownBlock = some g → D.vp.ownBlock = some g ∨ w.heap.size ≤ g)
  (ho : StoOk w' S { D with vp := v' } d' FS' X') (hf : ∀ k ∈ FS', k ∈ FS ∨ w.heap.size ≤ k) (e1 : X'.ps = X.ps) (e2 : X'.opn = false) (e3 : X'.h.gen ≤ X.h.gen + 1) :
  LsAt w0 w' P S ax now ax now now false (t + 1) { D with vp := v' } d' FS' X' := by
 have h2 := h.two.step hu (app_F hf (vp_F hi))
 exact ⟨h.p, ho, h2.frm, h2.fa, h2.fa, by rw [e1, h.ps], e2, nofun, fun _ => rfl, ⟨h.rise, by rw [← h.ps]; exact h.ok.rise.2.1⟩, ⟨h.of.1, h.of.1⟩, by have := h.gen; omega⟩
theorem LsAt.died (h : LsAt w0 w P S ax now bx xs xs true t D d FS X) (hu : Upd (FS ++ D.F) w w') (hi : ∀ g, v'.ownBlock = some g → D.vp.ownBlock = some g ∨ w.heap.size ≤ g)
  (hd : DskAt w' { D with vp := v' } d') (hk : DskOk d') (hm : ∀ img, Mixed d' img → ∃ h rs ps, ImgOk img h rs ∧ Says rs ps ∧ (ps = X.ps ∨ ps = X.nx) ∧ h.gen ≤ X.h.gen + 1) :
  LsDead w0 w' P ax now bx xs t { D with vp := v' } d' (FS ++ ({ D with vp := v' } : DskP).F) := by
 have h2 := h.two.step hu (app_F (FS' := FS) (D' := { D with vp := v' }) (fun _ hk => .inl hk) (vp_F hi))
 exact ⟨h.p, hd, hk, h2, fun _ hk => List.mem_append_right _ hk, fun img hg => by
  obtain ⟨h', rs, ps, h3, h4, h5, h6⟩ := hm img hg
  refine ⟨h', rs, ps, h3, h4, ?_, by have := h.gen; omega⟩
  rw [h.ps, h.nx rfl] at h5; exact h5, hk.arm, ⟨h.rise, by rw [← h.ps]; exact h.ok.rise.2.1, h.of.1⟩, ⟨h.rx.1, h.rx.2, h.of.2⟩⟩
theorem LsDead.after (h : LsDead w0 w P ax now bx next t D d F) (hb : Below w.heap.size w w') : LsDead w0 w' P ax now bx next t D d F :=
 { h with dsk := h.dsk.below hb, two := h.two.step (Upd.of_below hb) (fun _ hk => .inl hk) }
theorem LsDead.crash (h : LsDead w0 w P ax now bx next t D d F) {ks : List Nat} (hs : DStep w D (d.crashed ks) w') :
  ∃ D' F' d' hh rs ps, DskAt w' D' d' ∧ D'.p = P ∧ Settled d' ∧ ImgOk d'.ws hh rs ∧ Says rs ps ∧ (ps = now ∨ ps = next) ∧ hh.gen ≤ t + 1 ∧ Two0 w0 w' F' ax now bx next ∧ ∀ k ∈ D'.F, k ∈ F' := by
 obtain ⟨v', h1, h2, h3⟩ := hs
 obtain ⟨hh, rs, ps, h4, h5, h6, h7⟩ := h.mix _ (mixed_crashed h.ok ks)
 have hu : Upd F w w' := h2.mono h.sub
 refine ⟨{ D with vp := v' }, F ++ ({ D with vp := v' } : DskP).F, _, hh, rs, ps, h1, h.p, ⟨h.ok.crashed ks, rfl, rfl⟩, h4, h5, h6, h7, h.two.step hu (fun k hk => ?_), fun _ hk => List.mem_append_right _ hk⟩
 rcases List.mem_append.1 hk with h8 | h8
 ·exact .inl h8
 ·rcases vp_F h3 k h8 with h9 | h9
  ·exact .inl (h.sub k h9)
  ·exact .inr h9
theorem Two0.opened {D : DskP} {F : List Nat} (h : Two0 w0 w F ax now bx next) (hs : ∀ k ∈ D.F, k ∈ F) (hp : D.p = P) (ho : StoOk w' S D d FS X) (hf : ∀ k ∈ FS, w.heap.size ≤ k) (hb : Below w.heap.size w w') (e1 : X.ps = now ∨ X.ps = next) (e2 : X.opn = false) (e3 : X.h.gen ≤ t + 1)
  (rn : Rise now ∧ (∀ p ∈ now, okP p = true) ∧ Of60 now) (rx : Rise next ∧ (∀ p ∈ next, okP p = true) ∧ Of60 next) : LsOp w0 w' P S ax now bx next t D d FS X :=
 ⟨hp, ho, h.step (Upd.of_below hb) (fun k hk => by
  rcases List.mem_append.1 hk with h8 | h8
  ·exact .inr (hf k h8)
  ·exact .inl (hs k h8)), e1, e2, e3, rn, rx⟩
theorem LsOp.after (h : LsOp w0 w P S ax now bx next t D d FS X) (hb : Below w.heap.size w w') : LsOp w0 w' P S ax now bx next t D d FS X :=
 { h with ok := { h.ok with sto := h.ok.sto.kept fun k hk => hb.block k (h.ok.sto.lt k hk), dsk := h.ok.dsk.below hb }, two := h.two.step (Upd.of_below hb) (fun _ hk => .inl hk) }
theorem LsOp.was (h : LsOp w0 w P S ax now bx next t D d FS X) (e : X.ps = now) : LsAt w0 w P S ax now ax now now false (t + 1) D d FS X :=
 ⟨h.p, h.ok, h.two.frm, h.two.fa, h.two.fa, e, h.opn, nofun, fun _ => rfl, ⟨h.rn.1, h.rn.2.1⟩, ⟨h.rn.2.2, h.rn.2.2⟩, h.gen⟩
theorem LsOp.is (h : LsOp w0 w P S ax now bx next t D d FS X) (e : X.ps = next) : LsAt w0 w P S bx next bx next next false (t + 1) D d FS X :=
 ⟨h.p, h.ok, h.two.frm, h.two.fb, h.two.fb, e, h.opn, nofun, fun _ => rfl, ⟨h.rx.1, h.rx.2.1⟩, ⟨h.rx.2.2, h.rx.2.2⟩, h.gen⟩
theorem LsAt.start {D0 : DskP} (hD : ∀ k ∈ D0.F, w0.heap.size ≤ k) (hb : Below w0.heap.size w0 w) (hu : Upd D0.F w w') (hi : ∀ g, v'.ownBlock = some g → D0.vp.ownBlock = some g ∨ w.heap.size ≤ g) (ho : StoOk w' S { D0 with vp := v' } d FS X) (hf : ∀ k ∈ FS, w.heap.size ≤ k) (e1 : X.h = h0) (e2 : X.ps = []) (e3 : X.opn = false) :
  LsAt w0 w' D0.p S none [] none [] [] false 0 { D0 with vp := v' } d FS X := by
 have hfr : Frm w0 w D0.F := ⟨hb, hD⟩
 have h2 := hfr.step (F' := FS ++ ({ D0 with vp := v' } : DskP).F) hu (fun k hk => by
  rcases List.mem_append.1 hk with h8 | h8
  ·exact .inr (hf k h8)
  ·exact vp_F hi k h8)
 exact ⟨rfl, ho, h2, FarP.nil_ _ _, FarP.nil_ _ _, e2, e3, nofun, fun _ => rfl, ⟨List.Pairwise.nil, nofun⟩, ⟨nofun, nofun⟩, by rw [e1]; exact Nat.le_refl _⟩
theorem LsAt.later (h : LsAt w0 w P S ax now bx next xs b t D d FS X) : LsAt w0 w P S ax now bx next xs b (t + 1) D d FS X := { h with gen := Nat.le_succ_of_le h.gen }
theorem LsAt.all (h : LsAt w0 w P S ax now bx next xs b t D d FS X) {n : Nat} (hn : now.length = n) : Calls Tryz.prog 20 #[.pointer (some ⟨S, 0, none⟩)] w fun e w' => ∃ y c, e = .returned (.slice y n c) ∧ PrsAt w' y now ∧ PrsAt w' ax now ∧ Below w.heap.size w w' := by
 refine (all_any w S D d FS X h.ok).mono ?_
 rintro e w' ⟨v, rfl, ho⟩
 rw [h.ps] at ho
 obtain ⟨y, c, rfl, hp, _⟩ := ho.someS
 exact ⟨y, c, by rw [hn], hp, h.fa.prs.below ho.below, ho.below⟩
theorem LsOp.all (h : LsOp w0 w P S ax now bx next t D d FS X) : Calls Tryz.prog 20 #[.pointer (some ⟨S, 0, none⟩)] w fun e w' => ∃ y c, e = .returned (.slice y X.ps.length c) ∧ PrsAt w' y X.ps ∧ Below w.heap.size w w' := by
 refine (all_any w S D d FS X h.ok).mono ?_
 rintro e w' ⟨v, rfl, ho⟩
 obtain ⟨y, c, rfl, hp, _⟩ := ho.someS
 exact ⟨y, c, rfl, hp, ho.below⟩
theorem pairs_self {y x : Option Addr} {ps : List PairV} {n c k : Nat} (h1 : PrsAt w y ps) (h2 : PrsAt w x ps) (hn : ps.length = n) (hl : n ≤ 2147483647) : Calls Tryz.prog 19 #[.slice y n c, .slice x n k] w fun e w' => e = .returned (.bool true) ∧ Below w.heap.size w w' := by
 have := spairs_any ps ps y x n n c k w h1 h2 hn hn hl
 rwa [sameB_self] at this
theorem take_sub {l : List Nat} {k : Nat} : (l.take k).Sublist (l.take (k + 1)) := by
 rw [List.take_add_one]; exact List.sublist_append_left _ _
theorem take_put {l ls : List Nat} {k : Nat} (h : ls.Sublist (l.take k)) (hk : k < l.length) : (ls ++ [l[k]]).Sublist (l.take (k + 1)) := by
 rw [List.take_add_one, List.getElem?_eq_getElem hk]
 exact h.append (List.Sublist.refl _)
theorem held_push {w10 wr w5 : World} {l0 v5 : Value} {ls : List Nat} {PX : Nat} {o : Obj} (h1 : ∀ g, l0.ownBlock = some g → w10.heap.size ≤ g) (h2 : Upd [] w10 wr) (h3 : HeldN w5 v5 (ls ++ [PX])) (h4 : (wr.alloc o).grownBy w5 l0.ownBlock) (h5 : ∀ g, v5.ownBlock = some g → l0.ownBlock = some g ∨ (wr.alloc o).heap.size ≤ g) :
  HeldN w5 v5 (ls ++ [PX]) ∧ (∀ g, v5.ownBlock = some g → w10.heap.size ≤ g) ∧ Upd [] w10 w5 := by
 have hu := h2.then_below ((Below.refl _ wr).alloc (Nat.le_refl _) o)
 refine ⟨h3, fun g hg => ?_, hu.grown h4 fun k hk => .inr (h1 k hk)⟩
 rcases h5 g hg with h | h
 ·exact h1 g h
 ·exact Nat.le_trans hu.size h
theorem HeldN.ints {v : Value} {l : List Nat} (h : HeldN w v l) : ∃ x c, v = .slice x l.length c ∧ IntsAt w x (l.map fun n : Nat => (n : Int)) := by
 rcases h.shape with ⟨rfl, rfl⟩ | ⟨g, cap, cur, rfl, h5, _⟩
 ·exact ⟨none, 0, rfl, fun k hk => absurd hk (by simp)⟩
 ·exact ⟨_, _, rfl, fun k hk => ⟨g, 0, rfl, lt_of_heap h5, by
   have hk2 : k < l.length := by simpa using hk
   have := h.cell k hk2
   rw [Nat.zero_add, this]
   simp [nI]⟩⟩
end
end Go.Proofs.YtlommddabccdeaaGreatDoor

namespace Go.Proofs.YtlommddabccdeaaGreatDoor
open Go.ChangeShapes Go.WideShapes Go.ChangeAt Go.RowKit

theorem StoOk.stp {w0 w w' : World} {S : Nat} {D : DskP} {d : DskV} {FS : List Nat} {X X' : StoX} (h : StoOk w S D d FS X) (hf : Frm w0 w (FS ++ D.F)) (hs : StoStep w S D.p FS X' w') (e1 : X'.h = X.h) (e2 : X'.rs = X.rs) (e3 : X'.ps = X.ps) (hr : X'.opn = true → Rise X'.nx ∧ ∀ p ∈ X'.nx, okP p = true) :
  ∃ FS', StoOk w' S D d FS' X' ∧ Frm w0 w' (FS' ++ D.F) := by
 obtain ⟨FS', h1, h2, h3⟩ := hs
 have hu : Upd (FS ++ D.F) w w' := h2.mono fun k hk => List.mem_append_left _ hk
 have hap : ∀ k ∈ FS', k ∉ D.F := fun k hk hd => by
  rcases h3 k hk with h5 | h5
  ·exact h.apart k h5 hd
  ·have := h.dsk.lt k hd; omega
 refine ⟨FS', ⟨h1, h.dsk.kept fun k hk => h2.block k (h.dsk.lt k hk) (fun hm => h.apart k hm hk), h.set, ?_, ?_, ?_, hr, hap⟩, hf.step hu (app_F h3 fun _ hk => .inl hk)⟩
 ·rw [e1, e2]; exact h.img
 ·rw [e2, e3]; exact h.rds
 ·rw [e3]; exact h.rise
theorem StoOk.aft {w w' : World} {S : Nat} {D : DskP} {d : DskV} {FS : List Nat} {X : StoX} (h : StoOk w S D d FS X) (hb : Below w.heap.size w w') : StoOk w' S D d FS X :=
 { h with sto := h.sto.kept fun k hk => hb.block k (h.sto.lt k hk), dsk := h.dsk.below hb }
def pA : PairV := ⟨⟨#[97]⟩, ⟨#[120]⟩, ⟨#[49]⟩⟩
theorem pA_ok : okP pA = true ∧ okP ⟨⟨#[97]⟩, ⟨#[120]⟩, ⟨#[]⟩⟩ = true ∧ okP ⟨⟨#[65]⟩, ⟨#[120]⟩, ⟨#[]⟩⟩ = false := by decide +kernel
theorem pA_look : lookP [pA] ⟨#[97]⟩ ⟨#[120]⟩ = some ⟨#[49]⟩ := by decide +kernel
theorem pA_behind : behindL [] ⟨#[97]⟩ ⟨#[120]⟩ (some ⟨#[49]⟩) = [pA] := rfl
theorem pA_len : (recW [pA]).length ≤ 100 := by
 have h : ∀ s : ByteArray, s.size ≤ 1 → (txL s).length ≤ 4 := fun s hs => Nat.le_trans (txL_len s (by omega)) (by omega)
 have a := h pA.table (by decide)
 have b := h pA.key (by decide)
 have c := h pA.value (by decide)
 have f : (rowL 1).length ≤ 1 := by rw [rowL_small (by decide)]; exact Nat.le_refl _
 show (rowL 1 ++ ([pA].flatMap pairRow)).length ≤ 100
 simp only [List.flatMap_cons, List.flatMap_nil, List.append_nil, List.length_append, pairRow]
 omega
set_option maxHeartbeats 3200000 in
set_option maxRecDepth 100000 in
theorem sawake_any (w : World) (hT : StdO w) : Calls Tryz.prog 5 #[] w fun e w' => e = .returned (.bool true) ∧ Below w.heap.size w w' := by
 have HT := Lib.hid (fun W hb => hT.below (w' := W) hb)
 have HNW : Hid (Calls Tryz.prog 6 #[.int .i64 16] w fun e w' => ∃ D : DskP, e = .returned (.tuple #[.pointer (some ⟨D.p, 0, none⟩), .int .i64 0]) ∧ DskAt w' D (DskV.new 16) ∧ Below w.heap.size w w' ∧ (∀ k ∈ D.F, w.heap.size ≤ k)) := Lib.hid (dnew_any w 16 (by omega) (by omega))
 have HSN : Hid (Settled (DskV.new 16)) := Lib.hid ⟨DskOk.new (by omega) (by omega), rfl, rfl⟩
 clear hT
 go_enter Tryz.func5, Tryz.ntmps5
 go_wp2_with fail
 refine HNW.out.mono ?_
 rintro e w1 ⟨D0, rfl, hd, hb, hf⟩
 have HFM := Lib.hid (sformat_any w1 D0 _ hd HSN.out rfl)
 have HF1 : Hid (Frm w w1 D0.F) := Lib.hid ⟨hb, hf⟩
 clear hd hb hf HNW HSN
 go_wp2_with fail
 refine HFM.out.mono ?_
 rintro e w2 ⟨S, FS, X, d, v, rfl, k1, k2, k3, k4, k5, k6, k7, k8, k9⟩
 obtain ⟨D, hD⟩ : ∃ D, D = ({ D0 with vp := v } : DskP) := ⟨_, rfl⟩
 have HO2 : Hid (StoOk w2 S D d FS X) := Lib.hid (by rw [hD]; exact k1)
 have HF2 : Hid (Frm w w2 (FS ++ D.F)) := Lib.hid (by
  rw [hD]
  exact HF1.out.step k6 (fun k hk => by
   rcases List.mem_append.1 hk with h8 | h8
   ·exact .inr (k5 k h8)
   ·exact vp_F k7 k h8))
 have HX : Hid (X.ps = [] ∧ X.opn = false ∧ X.h = h0 ∧ d.ws.length = 16 ∧ d.armed = 0) := Lib.hid ⟨k3, k4, k2, by rw [k8]; rfl, k9⟩
 clear k1 k2 k3 k4 k5 k6 k7 k8 k9 hD HF1 HFM
 have HBG := Lib.hid (begin_any w2 S D d FS X HO2.out HX.out.2.1)
 go_wp2_with fail
 refine HBG.out.mono ?_
 rintro e w3 ⟨rfl, hs⟩
 obtain ⟨FS3, h3, f3⟩ := HO2.out.stp HF2.out hs rfl rfl rfl (fun _ => by show Rise X.ps ∧ ∀ p ∈ X.ps, okP p = true; rw [HX.out.1]; exact ⟨List.Pairwise.nil, nofun⟩)
 have HPT := Lib.hid (put_pair w3 S D d FS3 _ h3 rfl (by show X.ps.length ≤ 60; rw [HX.out.1]; decide) pA pA_ok.1 (HT.out _ f3.bel))
 have HO3 := Lib.hid (And.intro h3 f3)
 clear hs h3 f3 HO2 HF2 HBG
 unfold pV pA at HPT
 dsimp only at HPT
 go_wp2_with fail
 refine HPT.out.mono ?_
 rintro e w4 ⟨rfl, hs⟩
 obtain ⟨FS4, h4, f4⟩ := HO3.out.1.stp HO3.out.2 hs rfl rfl rfl (fun _ => by
  show Rise (behindL X.ps _ _ _) ∧ ∀ p ∈ behindL X.ps _ _ _, okP p = true
  rw [HX.out.1, pA_behind]
  exact ⟨List.pairwise_singleton _ _, fun p hp => by rw [List.mem_singleton.1 hp]; exact pA_ok.1⟩)
 obtain ⟨X4, hX4⟩ : ∃ X4 : StoX, X4 = { X with opn := true, nx := behindL X.ps ⟨#[97]⟩ ⟨#[120]⟩ (some ⟨#[49]⟩) } := ⟨_, rfl⟩
 have HO4 : Hid (StoOk w4 S D d FS4 X4 ∧ Frm w w4 (FS4 ++ D.F)) := Lib.hid (by rw [hX4]; exact ⟨h4, f4⟩)
 have HX4 : Hid (X4.ps = [] ∧ X4.opn = true ∧ X4.nx = [pA] ∧ X4.h = h0) := Lib.hid (by rw [hX4]; exact ⟨HX.out.1, rfl, by show behindL X.ps _ _ _ = _; rw [HX.out.1]; exact pA_behind, HX.out.2.2.1⟩)
 clear hs h4 f4 hX4 HO3 HPT
 have HGT : Hid (Calls Tryz.prog 21 #[.pointer (some ⟨S, 0, none⟩), .string ⟨#[97]⟩, .string ⟨#[120]⟩] w4 fun e w' => e = .returned (.tuple #[.string ⟨#[]⟩, .bool false]) ∧ Below w4.heap.size w4 w') := Lib.hid (by
  have := get_any w4 S D d FS4 X4 HO4.out.1 ⟨#[97]⟩ ⟨#[120]⟩ (by decide) (by decide)
  rw [HX4.out.1] at this
  exact this)
 go_wp2_with fail
 refine HGT.out.mono ?_
 rintro e w5 ⟨rfl, hb⟩
 have HO5 : Hid (StoOk w5 S D d FS4 X4 ∧ Frm w w5 (FS4 ++ D.F)) := Lib.hid ⟨HO4.out.1.aft hb, HO4.out.2.step (Upd.of_below hb) fun _ hk => .inl hk⟩
 clear hb HO4 HGT
 have HCM := Lib.hid (commit_any w5 S D d FS4 X4 HO5.out.1 HX4.out.2.1 (by rw [HX4.out.2.2.2]; decide) (by rw [HX4.out.2.2.1]; decide) (by rw [HX4.out.1]; decide) (HT.out _ HO5.out.2.bel))
 go_wp2_with fail
 refine HCM.out.mono ?_
 rintro e w6 ⟨E, d', v', rfl, hd8, hu8, hi8, ⟨_, hl2, hl3⟩, hcase⟩
 rcases hcase with ⟨rfl, FS', X', k1, k2, k3, k4, k5⟩ | ⟨rfl, _⟩ | ⟨rfl, _⟩
 rotate_left
 ·exfalso
  have h1 := hl3 rfl
  rw [HX4.out.2.2.1] at h1
  have h2 := pA_len
  unfold arN at h1
  rw [HX.out.2.2.2.1] at h1
  omega
 ·exact absurd rfl (hl2 HX.out.2.2.2.2)
 obtain ⟨D6, hD6⟩ : ∃ D6, D6 = ({ D with vp := v' } : DskP) := ⟨_, rfl⟩
 have HO6 : Hid (StoOk w6 S D6 d' FS' X' ∧ Frm w w6 (FS' ++ D6.F) ∧ X'.ps = [pA] ∧ X'.opn = false) := Lib.hid (by
  rw [hD6]
  exact ⟨k1, HO5.out.2.step hu8 (app_F k2 (vp_F hi8)), k3.trans HX4.out.2.2.1, k4⟩)
 clear hd8 hu8 hi8 hl2 hl3 k1 k2 k3 k4 k5 hD6 HCM HO5 HX4 HX
 have HAF : Hid (∀ W, Below w6.heap.size w6 W → StoOk W S D6 d' FS' X' ∧ StdO W) := Lib.hid fun W hb => ⟨HO6.out.1.aft hb, HT.out _ (HO6.out.2.1.bel.trans (hb.mono HO6.out.2.1.bel.size))⟩
 have HGT : Hid (∀ W, Below w6.heap.size w6 W → Calls Tryz.prog 21 #[.pointer (some ⟨S, 0, none⟩), .string ⟨#[97]⟩, .string ⟨#[120]⟩] W fun e w' => e = .returned (.tuple #[.string ⟨#[49]⟩, .bool true]) ∧ Below W.heap.size W w') := Lib.hid fun W hb => by
  have := get_any W S D6 d' FS' X' (HAF.out W hb).1 ⟨#[97]⟩ ⟨#[120]⟩ (by decide) (by decide)
  rw [HO6.out.2.2.1, pA_look] at this
  exact this
 have HAL : Hid (∀ W, Below w6.heap.size w6 W → Calls Tryz.prog 20 #[.pointer (some ⟨S, 0, none⟩)] W fun e w' => ∃ y c, e = .returned (.slice y 1 c) ∧ Below W.heap.size W w') := Lib.hid fun W hb => by
  refine (all_any W S D6 d' FS' X' (HAF.out W hb).1).mono ?_
  rintro e w' ⟨v, rfl, ho⟩
  rw [HO6.out.2.2.1] at ho
  obtain ⟨y, c, rfl, _, _⟩ := ho.someS
  exact ⟨y, c, rfl, ho.below⟩
 have HPS : Hid (∀ W, Below w6.heap.size w6 W → Calls Tryz.prog 12 #[.pointer (some ⟨S, 0, none⟩), .agg #[.string ⟨#[97]⟩, .string ⟨#[120]⟩, .string ⟨#[]⟩]] W fun e w' => e = .returned (.int .i64 151) ∧ Below W.heap.size W w') := Lib.hid fun W hb => put_shut W S D6 d' FS' X' (HAF.out W hb).1 HO6.out.2.2.2 ⟨⟨#[97]⟩, ⟨#[120]⟩, ⟨#[]⟩⟩ pA_ok.2.1 (HAF.out W hb).2
 have HPB : Hid (∀ W, Below w6.heap.size w6 W → Calls Tryz.prog 12 #[.pointer (some ⟨S, 0, none⟩), .agg #[.string ⟨#[65]⟩, .string ⟨#[120]⟩, .string ⟨#[]⟩]] W fun e w' => e = .returned (.int .i64 150) ∧ Below W.heap.size W w') := Lib.hid fun W hb => put_bad W S ⟨⟨#[65]⟩, ⟨#[120]⟩, ⟨#[]⟩⟩ pA_ok.2.2 ⟨by decide, by decide⟩ (HAF.out W hb).2
 have HBA : Hid (Below w6.heap.size w6 w6) := Lib.hid (Below.refl _ _)
 go_wp2_with fail
 refine (HGT.out _ HBA.out).mono ?_
 rintro e w7 ⟨rfl, hb⟩
 have HB7 := Lib.hid (HBA.out.trans (hb.mono HBA.out.size))
 clear hb HBA
 go_wp2_with fail
 refine (HAL.out _ HB7.out).mono ?_
 rintro e w8 ⟨y, c, rfl, hb⟩
 have HB8 := Lib.hid (HB7.out.trans (hb.mono HB7.out.size))
 clear hb HB7
 go_wp2_with fail
 refine (HPS.out _ HB8.out).mono ?_
 rintro e w9 ⟨rfl, hb⟩
 have HB9 := Lib.hid (HB8.out.trans (hb.mono HB8.out.size))
 clear hb HB8
 go_wp2_with fail
 refine (HPB.out _ HB9.out).mono ?_
 rintro e w10 ⟨rfl, hb⟩
 have HB10 := Lib.hid (HB9.out.trans (hb.mono HB9.out.size))
 clear hb HB9
 go_wp2_with fail
 refine (open_nil _).mono ?_
 rintro e w11 ⟨rfl, hb⟩
 have HB11 := Lib.hid (HB10.out.trans (hb.mono HB10.out.size))
 clear hb HB10
 go_wp2
 go_ret
 exact ⟨by first | rfl | simp, HO6.out.2.1.bel.trans (HB11.out.mono HO6.out.2.1.bel.size)⟩
end Go.Proofs.YtlommddabccdeaaGreatDoor
