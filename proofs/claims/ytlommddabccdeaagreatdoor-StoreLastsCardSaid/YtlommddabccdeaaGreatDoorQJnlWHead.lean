/-
  JnlWHead.
-/
import Derived.Test.YtlommddabccdeaaGreatDoorQJnlRecs
namespace Go.Proofs.YtlommddabccdeaaGreatDoor
open Go.ChangeShapes Go.WideShapes Go.ChangeAt Go.RowKit

theorem jnl_apart {w : World} {J : Nat} {D : DskP} {d : DskV} {h : HeadV} {q : Bool} (hJ : JnlAt w J D.p h q) (hD : DskAt w D d) : J ∉ D.F := by
 intro hx
 simp [DskP.F] at hx
 rcases hx with e | e | e | e
 ·rw [e] at hJ
  exact apart_of hJ hD.obj (by decide) rfl
 ·obtain ⟨_, e1, _⟩ := hD.rl
  rw [e] at hJ
  exact apart_of hJ e1 (by decide) rfl
 ·obtain ⟨_, e1, _⟩ := hD.rw
  rw [e] at hJ
  exact apart_of hJ e1 (by decide) rfl
 ·exact held_apart_obj hD.rp hJ (by decide) e
theorem JnlAt.step {w w' : World} {J : Nat} {D : DskP} {d : DskV} {h : HeadV} {q : Bool} (hJ : JnlAt w J D.p h q) (hD : DskAt w D d) (hu : Upd D.F w w') : JnlAt w' J D.p h q := (hu.block _ (lt_of_heap hJ) (jnl_apart hJ hD)).trans hJ
theorem DStep.trans {w w1 w2 : World} {D : DskP} {d2 : DskV} {v1 : Value} (h1 : Upd D.F w w1 ∧ ∀ g, v1.ownBlock = some g → D.vp.ownBlock = some g ∨ w.heap.size ≤ g) (h2 : DStep w1 { D with vp := v1 } d2 w2) : DStep w D d2 w2 := by
 obtain ⟨v2, hA, hU, hv⟩ := h2
 refine ⟨v2, hA, h1.1.trans hU (fun x hx => ?_), fun g hg => ?_⟩
 ·simp [DskP.F] at hx ⊢
  rcases hx with e | e | e | e
  ·exact .inl (.inl e)
  ·exact .inl (.inr (.inl e))
  ·exact .inl (.inr (.inr (.inl e)))
  ·rcases h1.2 x e with h3 | h3
   ·exact .inl (.inr (.inr (.inr h3)))
   ·exact .inr h3
 ·rcases hv g hg with h3 | h3
  ·exact h1.2 g h3
  ·exact .inr (Nat.le_trans h1.1.size h3)
theorem DStep.after {w w0 w1 : World} {D : DskP} {d1 : DskV} (hb : Below w.heap.size w w0) (h : DStep w0 D d1 w1) : DStep w D d1 w1 := by
 obtain ⟨v2, hA, hU, hv⟩ := h
 exact ⟨v2, hA, (Upd.of_below hb).step hU (fun x hx => hx), fun g hg => (hv g hg).imp id (Nat.le_trans hb.size)⟩
def HeadRes (w : World) (J : Nat) (D : DskP) (d : DskV) (h h' : HeadV) (q : Bool) (e : Ending) (w' : World) : Prop :=
 ∃ E d' v', e = .returned (.int .i64 E) ∧ DskAt w' { D with vp := v' } d' ∧ Upd (J :: D.F) w w' ∧ (∀ g, v'.ownBlock = some g → D.vp.ownBlock = some g ∨ w.heap.size ≤ g) ∧
  ((E = 0 ∧ Settled d' ∧ d'.ws = d.ws.set 0 (headL h') ∧ JnlAt w' J D.p h' q ∧ (d.armed = 0 → d'.armed = 0)) ∨ (E = 2 ∧ d'.dead = true ∧ Laid d 0 [headL h'] d' ∧ JnlAt w' J D.p h q ∧ (d.armed = 1 ∨ d.armed = 2)))
theorem upd_cons {J : Nat} {F : List Nat} {a b : World} (h : Upd F a b) : Upd (J :: F) a b := h.mono fun _ hx => List.mem_cons_of_mem _ hx
set_option maxHeartbeats 1600000 in
theorem writeHead_dies1 (w : World) (J : Nat) (D : DskP) (d : DskV) (h h' : HeadV) (q : Bool) (hJ : JnlAt w J D.p h q) (hD : DskAt w D d) (hs : Settled d) (h1 : d.armed = 1) :
  Calls Tryz.prog 40 #[.pointer (some ⟨J, 0, none⟩), hAgg h'] w (HeadRes w J D d h h' q) := by
 have hok := hs.ok
 have hn0 : 0 < d.ws.length := by have := hok.lo; omega
 have c0 := cell_at hJ (k := 0) rfl
 have hJD := jnl_apart hJ hD
 have hlt := lt_of_heap hJ
 have HT : Hid (∀ W, Calls Tryz.prog 63 #[hAgg h'] W fun e w' => e = .returned (.string (bOf (headL h'))) ∧ Below W.heap.size W w') := Lib.hid fun W => headText_any W h'
 have HW : Hid (∀ W, Below w.heap.size w W → Calls Tryz.prog 62 #[.pointer (some ⟨D.p, 0, none⟩), .int .i64 0, .string (bOf (headL h'))] W fun e w' => e = .returned (.int .i64 d.says) ∧ DStep W D (d.wrote 0 (headL h')) w') := Lib.hid fun W hW => by
  have := dwrite_any W D d (hD.below hW) hok hs.live 0 hn0 (bOf (headL h')) (by rw [bOf_size, headL_len])
  rw [bOf_list] at this
  exact this
 have HLD : Hid (Laid d 0 [headL h'] (d.wrote 0 (headL h'))) := Lib.hid (by
  have := (Laid.start hok hs.ps 0).more (b := headL h') (by simpa using hn0) (headL_len h')
  simpa using this)
 have HB0 : Hid (∀ t, Below w.heap.size w (w.alloc (.cells #[.int .i64 h'.gen, .int .i64 h'.area, .int .i64 h'.used] t)).drew) := Lib.hid fun t => ((Below.refl _ w).alloc (Nat.le_refl _) _).drew
 have HKB : Hid (∀ W, Below w.heap.size w W → JnlAt W J D.p h q ∧ DskAt W D d) := Lib.hid fun W hW => ⟨hJ.below hW, hD.below hW⟩
 have HS0 : Hid (∀ t, let W := (w.alloc (.cells #[.int .i64 h'.gen, .int .i64 h'.area, .int .i64 h'.used] t)).drew; W.cell? ⟨J, 0, none⟩ = some (.pointer (some ⟨D.p, 0, none⟩)) ∧ W.cell? ⟨w.heap.size, 0, none⟩ = some (.int .i64 h'.gen) ∧ W.cell? ⟨w.heap.size, 1, none⟩ = some (.int .i64 h'.area) ∧ W.cell? ⟨w.heap.size, 2, none⟩ = some (.int .i64 h'.used)) := Lib.hid fun t => by
  have hb := heap_alloc_new w (.cells #[.int .i64 h'.gen, .int .i64 h'.area, .int .i64 h'.used] t)
  refine ⟨?_, cell_at hb (k := 0) rfl, cell_at hb (k := 1) rfl, cell_at hb (k := 2) rfl⟩
  have := cell_at ((heap_alloc_old w (.cells #[.int .i64 h'.gen, .int .i64 h'.area, .int .i64 h'.used] t) hlt).trans hJ) (k := 0) rfl
  exact this
 have HKP : Hid (∀ (F : List Nat) (W W' : World), (∀ y ∈ F, y < w.heap.size ∧ y ≠ J) → (W.cell? ⟨J, 0, none⟩ = some (.pointer (some ⟨D.p, 0, none⟩)) ∧ W.cell? ⟨w.heap.size, 0, none⟩ = some (.int .i64 h'.gen) ∧ W.cell? ⟨w.heap.size, 1, none⟩ = some (.int .i64 h'.area) ∧ W.cell? ⟨w.heap.size, 2, none⟩ = some (.int .i64 h'.used)) → Upd F W W' → (W'.cell? ⟨J, 0, none⟩ = some (.pointer (some ⟨D.p, 0, none⟩)) ∧ W'.cell? ⟨w.heap.size, 0, none⟩ = some (.int .i64 h'.gen) ∧ W'.cell? ⟨w.heap.size, 1, none⟩ = some (.int .i64 h'.area) ∧ W'.cell? ⟨w.heap.size, 2, none⟩ = some (.int .i64 h'.used))) := Lib.hid fun F W W' hF hS hu => by
  obtain ⟨h0, h1, h2, h3⟩ := hS
  have l0 : J < W.heap.size := World.block_lt_of_cell? W _ h0
  have l1 : w.heap.size < W.heap.size := World.block_lt_of_cell? W _ h1
  have n0 : J ∉ F := fun e => (hF _ e).2 rfl
  have n1 : w.heap.size ∉ F := fun e => Nat.lt_irrefl _ (hF _ e).1
  exact ⟨(hu.cell l0 n0 0).trans h0, (hu.cell l1 n1 0).trans h1, (hu.cell l1 n1 1).trans h2, (hu.cell l1 n1 2).trans h3⟩
 have HF : Hid (∀ x ∈ D.F, x < w.heap.size ∧ x ≠ J) := Lib.hid fun x hx => ⟨hD.lt x hx, fun e => hJD (e ▸ hx)⟩
 have HSET := Lib.hid hs
 have HJL := Lib.hid hlt
 have HA1 : Hid (d.armed = 1 ∨ d.armed = 2) := Lib.hid (Or.inl h1)
 have hsay : d.says = 2 := by unfold DskV.says; rw [if_pos h1]
 rw [hsay] at HW
 have HDD : Hid ((d.wrote 0 (headL h')).dead = true) := Lib.hid (by simp [DskV.wrote, DskV.act, h1])
 clear hsay h1 hok hs hn0 hJ hD hJD hlt c0
 unfold hAgg
 unfold hAgg at HT
 obtain ⟨gen, area, used⟩ := h'
 simp only at HB0 HKP HS0 HT ⊢
 go_enter Tryz.func40, Tryz.ntmps40
 go_wp2
 go_region_held3 (fun W => W.cell? ⟨J, 0, none⟩ = some (.pointer (some ⟨D.p, 0, none⟩)) ∧ W.cell? ⟨w.heap.size, 0, none⟩ = some (.int .i64 gen) ∧ W.cell? ⟨w.heap.size, 1, none⟩ = some (.int .i64 area) ∧ W.cell? ⟨w.heap.size, 2, none⟩ = some (.int .i64 used)) (first | exact KS2.out | exact KS.out | exact HS0.out _) (first
  | (go_at_call 63; (with_reducible refine (HT.out _).mono ?_); rintro e w2 ⟨rfl, hb2⟩; have HB2 := Lib.hid ((HB0.out _).trans (hb2.mono (HB0.out _).size)); have KS := Lib.hid (HKP.out [] _ _ (fun _ hx => by cases hx) (HS0.out _) (Upd.of_below hb2)); clear hb2; dsimp only)
  | (go_at_call 62; (with_reducible refine (HW.out _ HB2.out).mono ?_); rintro e w3 ⟨rfl, v3, hA3, hU3, hv3⟩; have KS2 := Lib.hid (HKP.out D.F _ _ HF.out KS.out hU3); have H3 := Lib.hid (And.intro hA3 (And.intro hU3 hv3)); clear hA3 hU3 hv3; dsimp only)
  | fail)
 go_wp2
 go_ret
 have hw : Upd D.F w w3 := (Upd.of_below HB2.out).step H3.out.2.1 (fun x hx => hx)
 obtain ⟨hJ2, hD2⟩ := HKB.out _ HB2.out
 exact ⟨2, _, v3, rfl, H3.out.1, upd_cons hw, fun g hg => (H3.out.2.2 g hg).imp id (Nat.le_trans HB2.out.size), Or.inr ⟨rfl, HDD.out, HLD.out, hJ2.step hD2 H3.out.2.1, HA1.out⟩⟩
set_option maxHeartbeats 1600000 in
theorem writeHead_dies2 (w : World) (J : Nat) (D : DskP) (d : DskV) (h h' : HeadV) (q : Bool) (hJ : JnlAt w J D.p h q) (hD : DskAt w D d) (hs : Settled d) (h1 : ¬ d.armed = 1) (h2 : d.armed = 2) :
  Calls Tryz.prog 40 #[.pointer (some ⟨J, 0, none⟩), hAgg h'] w (HeadRes w J D d h h' q) := by
 have hok := hs.ok
 have hn0 : 0 < d.ws.length := by have := hok.lo; omega
 have c0 := cell_at hJ (k := 0) rfl
 have hJD := jnl_apart hJ hD
 have hlt := lt_of_heap hJ
 have HT : Hid (∀ W, Calls Tryz.prog 63 #[hAgg h'] W fun e w' => e = .returned (.string (bOf (headL h'))) ∧ Below W.heap.size W w') := Lib.hid fun W => headText_any W h'
 have HW : Hid (∀ W, Below w.heap.size w W → Calls Tryz.prog 62 #[.pointer (some ⟨D.p, 0, none⟩), .int .i64 0, .string (bOf (headL h'))] W fun e w' => e = .returned (.int .i64 d.says) ∧ DStep W D (d.wrote 0 (headL h')) w') := Lib.hid fun W hW => by
  have := dwrite_any W D d (hD.below hW) hok hs.live 0 hn0 (bOf (headL h')) (by rw [bOf_size, headL_len])
  rw [bOf_list] at this
  exact this
 have HLD : Hid (Laid d 0 [headL h'] (d.wrote 0 (headL h'))) := Lib.hid (by
  have := (Laid.start hok hs.ps 0).more (b := headL h') (by simpa using hn0) (headL_len h')
  simpa using this)
 have HB0 : Hid (∀ t, Below w.heap.size w (w.alloc (.cells #[.int .i64 h'.gen, .int .i64 h'.area, .int .i64 h'.used] t)).drew) := Lib.hid fun t => ((Below.refl _ w).alloc (Nat.le_refl _) _).drew
 have HKB : Hid (∀ W, Below w.heap.size w W → JnlAt W J D.p h q ∧ DskAt W D d) := Lib.hid fun W hW => ⟨hJ.below hW, hD.below hW⟩
 have HS0 : Hid (∀ t, let W := (w.alloc (.cells #[.int .i64 h'.gen, .int .i64 h'.area, .int .i64 h'.used] t)).drew; W.cell? ⟨J, 0, none⟩ = some (.pointer (some ⟨D.p, 0, none⟩)) ∧ W.cell? ⟨w.heap.size, 0, none⟩ = some (.int .i64 h'.gen) ∧ W.cell? ⟨w.heap.size, 1, none⟩ = some (.int .i64 h'.area) ∧ W.cell? ⟨w.heap.size, 2, none⟩ = some (.int .i64 h'.used)) := Lib.hid fun t => by
  have hb := heap_alloc_new w (.cells #[.int .i64 h'.gen, .int .i64 h'.area, .int .i64 h'.used] t)
  refine ⟨?_, cell_at hb (k := 0) rfl, cell_at hb (k := 1) rfl, cell_at hb (k := 2) rfl⟩
  have := cell_at ((heap_alloc_old w (.cells #[.int .i64 h'.gen, .int .i64 h'.area, .int .i64 h'.used] t) hlt).trans hJ) (k := 0) rfl
  exact this
 have HKP : Hid (∀ (F : List Nat) (W W' : World), (∀ y ∈ F, y < w.heap.size ∧ y ≠ J) → (W.cell? ⟨J, 0, none⟩ = some (.pointer (some ⟨D.p, 0, none⟩)) ∧ W.cell? ⟨w.heap.size, 0, none⟩ = some (.int .i64 h'.gen) ∧ W.cell? ⟨w.heap.size, 1, none⟩ = some (.int .i64 h'.area) ∧ W.cell? ⟨w.heap.size, 2, none⟩ = some (.int .i64 h'.used)) → Upd F W W' → (W'.cell? ⟨J, 0, none⟩ = some (.pointer (some ⟨D.p, 0, none⟩)) ∧ W'.cell? ⟨w.heap.size, 0, none⟩ = some (.int .i64 h'.gen) ∧ W'.cell? ⟨w.heap.size, 1, none⟩ = some (.int .i64 h'.area) ∧ W'.cell? ⟨w.heap.size, 2, none⟩ = some (.int .i64 h'.used))) := Lib.hid fun F W W' hF hS hu => by
  obtain ⟨h0, h1, h2, h3⟩ := hS
  have l0 : J < W.heap.size := World.block_lt_of_cell? W _ h0
  have l1 : w.heap.size < W.heap.size := World.block_lt_of_cell? W _ h1
  have n0 : J ∉ F := fun e => (hF _ e).2 rfl
  have n1 : w.heap.size ∉ F := fun e => Nat.lt_irrefl _ (hF _ e).1
  exact ⟨(hu.cell l0 n0 0).trans h0, (hu.cell l1 n1 0).trans h1, (hu.cell l1 n1 1).trans h2, (hu.cell l1 n1 2).trans h3⟩
 have HF : Hid (∀ x ∈ D.F, x < w.heap.size ∧ x ≠ J) := Lib.hid fun x hx => ⟨hD.lt x hx, fun e => hJD (e ▸ hx)⟩
 have HSET := Lib.hid hs
 have HJL := Lib.hid hlt
 have HA1 : Hid (d.armed = 1 ∨ d.armed = 2) := Lib.hid (Or.inr h2)
 have hsay : d.says = 0 := by unfold DskV.says; rw [if_neg h1]
 rw [hsay] at HW
 have hsay2 : (d.wrote 0 (headL h')).says = 2 := by unfold DskV.says DskV.wrote DskV.act; simp [h2]
 have HYY : Hid ((d.wrote 0 (headL h')).synced = (d.wrote 0 (headL h')).act) := Lib.hid (by unfold DskV.synced; rw [if_pos (by simp [DskV.wrote, DskV.act, h2])])
 have HDD : Hid ((d.wrote 0 (headL h')).act.dead = true) := Lib.hid (by simp [DskV.wrote, DskV.act, h2])
 have HSY : Hid (∀ W v, DskAt W { D with vp := v } (d.wrote 0 (headL h')) → Calls Tryz.prog 64 #[.pointer (some ⟨D.p, 0, none⟩)] W fun e w' => e = .returned (.int .i64 (d.wrote 0 (headL h')).says) ∧ DStep W { D with vp := v } (d.wrote 0 (headL h')).synced w') := Lib.hid fun W v hW => dsync_any W { D with vp := v } _ hW HLD.out.ok (by simp [DskV.wrote, DskV.act, h1])
 rw [hsay2] at HSY
 clear hsay hsay2 h1 h2 hok hs hn0 hJ hD hJD hlt c0
 unfold hAgg
 unfold hAgg at HT
 obtain ⟨gen, area, used⟩ := h'
 simp only at HB0 HKP HS0 HT ⊢
 go_enter Tryz.func40, Tryz.ntmps40
 go_wp2
 go_region_held3 (fun W => W.cell? ⟨J, 0, none⟩ = some (.pointer (some ⟨D.p, 0, none⟩)) ∧ W.cell? ⟨w.heap.size, 0, none⟩ = some (.int .i64 gen) ∧ W.cell? ⟨w.heap.size, 1, none⟩ = some (.int .i64 area) ∧ W.cell? ⟨w.heap.size, 2, none⟩ = some (.int .i64 used)) (first | exact KS2.out | exact KS.out | exact HS0.out _) (first
  | (go_at_call 63; (with_reducible refine (HT.out _).mono ?_); rintro e w2 ⟨rfl, hb2⟩; have HB2 := Lib.hid ((HB0.out _).trans (hb2.mono (HB0.out _).size)); have KS := Lib.hid (HKP.out [] _ _ (fun _ hx => by cases hx) (HS0.out _) (Upd.of_below hb2)); clear hb2; dsimp only)
  | (go_at_call 62; (with_reducible refine (HW.out _ HB2.out).mono ?_); rintro e w3 ⟨rfl, v3, hA3, hU3, hv3⟩; have KS2 := Lib.hid (HKP.out D.F _ _ HF.out KS.out hU3); have H3 := Lib.hid (And.intro hA3 (And.intro hU3 hv3)); clear hA3 hU3 hv3; dsimp only)
  | fail)
 have cj := KS2.out.1
 go_wp2_with (go_at_call 64; refine (HSY.out _ _ H3.out.1).mono ?_; rintro e w4 ⟨rfl, hs4⟩; have H4 := Lib.hid hs4; clear hs4)
 go_ret
 obtain ⟨hJ2, hD2⟩ := HKB.out _ HB2.out
 have hJ3 := hJ2.step hD2 H3.out.2.1
 obtain ⟨v4, hA4, hU4, hv4⟩ := H4.out
 have hJ4 := JnlAt.step (D := { D with vp := v3 }) hJ3 H3.out.1 hU4
 obtain ⟨v5, hA5, hU5, hv5⟩ := DStep.after HB2.out (DStep.trans ⟨H3.out.2.1, H3.out.2.2⟩ H4.out)
 rw [HYY.out] at hA5
 exact ⟨2, _, v5, rfl, hA5, upd_cons hU5, hv5, Or.inr ⟨rfl, HDD.out, HLD.out.act, hJ4, HA1.out⟩⟩
set_option maxHeartbeats 1600000 in
theorem writeHead_lasts (w : World) (J : Nat) (D : DskP) (d : DskV) (h h' : HeadV) (q : Bool) (hJ : JnlAt w J D.p h q) (hD : DskAt w D d) (hs : Settled d) (h1 : ¬ d.armed = 1) (h2 : ¬ d.armed = 2) :
  Calls Tryz.prog 40 #[.pointer (some ⟨J, 0, none⟩), hAgg h'] w (HeadRes w J D d h h' q) := by
 have hok := hs.ok
 have hn0 : 0 < d.ws.length := by have := hok.lo; omega
 have c0 := cell_at hJ (k := 0) rfl
 have hJD := jnl_apart hJ hD
 have hlt := lt_of_heap hJ
 have HT : Hid (∀ W, Calls Tryz.prog 63 #[hAgg h'] W fun e w' => e = .returned (.string (bOf (headL h'))) ∧ Below W.heap.size W w') := Lib.hid fun W => headText_any W h'
 have HW : Hid (∀ W, Below w.heap.size w W → Calls Tryz.prog 62 #[.pointer (some ⟨D.p, 0, none⟩), .int .i64 0, .string (bOf (headL h'))] W fun e w' => e = .returned (.int .i64 d.says) ∧ DStep W D (d.wrote 0 (headL h')) w') := Lib.hid fun W hW => by
  have := dwrite_any W D d (hD.below hW) hok hs.live 0 hn0 (bOf (headL h')) (by rw [bOf_size, headL_len])
  rw [bOf_list] at this
  exact this
 have HLD : Hid (Laid d 0 [headL h'] (d.wrote 0 (headL h'))) := Lib.hid (by
  have := (Laid.start hok hs.ps 0).more (b := headL h') (by simpa using hn0) (headL_len h')
  simpa using this)
 have HB0 : Hid (∀ t, Below w.heap.size w (w.alloc (.cells #[.int .i64 h'.gen, .int .i64 h'.area, .int .i64 h'.used] t)).drew) := Lib.hid fun t => ((Below.refl _ w).alloc (Nat.le_refl _) _).drew
 have HKB : Hid (∀ W, Below w.heap.size w W → JnlAt W J D.p h q ∧ DskAt W D d) := Lib.hid fun W hW => ⟨hJ.below hW, hD.below hW⟩
 have HS0 : Hid (∀ t, let W := (w.alloc (.cells #[.int .i64 h'.gen, .int .i64 h'.area, .int .i64 h'.used] t)).drew; W.cell? ⟨J, 0, none⟩ = some (.pointer (some ⟨D.p, 0, none⟩)) ∧ W.cell? ⟨w.heap.size, 0, none⟩ = some (.int .i64 h'.gen) ∧ W.cell? ⟨w.heap.size, 1, none⟩ = some (.int .i64 h'.area) ∧ W.cell? ⟨w.heap.size, 2, none⟩ = some (.int .i64 h'.used)) := Lib.hid fun t => by
  have hb := heap_alloc_new w (.cells #[.int .i64 h'.gen, .int .i64 h'.area, .int .i64 h'.used] t)
  refine ⟨?_, cell_at hb (k := 0) rfl, cell_at hb (k := 1) rfl, cell_at hb (k := 2) rfl⟩
  have := cell_at ((heap_alloc_old w (.cells #[.int .i64 h'.gen, .int .i64 h'.area, .int .i64 h'.used] t) hlt).trans hJ) (k := 0) rfl
  exact this
 have HKP : Hid (∀ (F : List Nat) (W W' : World), (∀ y ∈ F, y < w.heap.size ∧ y ≠ J) → (W.cell? ⟨J, 0, none⟩ = some (.pointer (some ⟨D.p, 0, none⟩)) ∧ W.cell? ⟨w.heap.size, 0, none⟩ = some (.int .i64 h'.gen) ∧ W.cell? ⟨w.heap.size, 1, none⟩ = some (.int .i64 h'.area) ∧ W.cell? ⟨w.heap.size, 2, none⟩ = some (.int .i64 h'.used)) → Upd F W W' → (W'.cell? ⟨J, 0, none⟩ = some (.pointer (some ⟨D.p, 0, none⟩)) ∧ W'.cell? ⟨w.heap.size, 0, none⟩ = some (.int .i64 h'.gen) ∧ W'.cell? ⟨w.heap.size, 1, none⟩ = some (.int .i64 h'.area) ∧ W'.cell? ⟨w.heap.size, 2, none⟩ = some (.int .i64 h'.used))) := Lib.hid fun F W W' hF hS hu => by
  obtain ⟨h0, h1, h2, h3⟩ := hS
  have l0 : J < W.heap.size := World.block_lt_of_cell? W _ h0
  have l1 : w.heap.size < W.heap.size := World.block_lt_of_cell? W _ h1
  have n0 : J ∉ F := fun e => (hF _ e).2 rfl
  have n1 : w.heap.size ∉ F := fun e => Nat.lt_irrefl _ (hF _ e).1
  exact ⟨(hu.cell l0 n0 0).trans h0, (hu.cell l1 n1 0).trans h1, (hu.cell l1 n1 1).trans h2, (hu.cell l1 n1 2).trans h3⟩
 have HF : Hid (∀ x ∈ D.F, x < w.heap.size ∧ x ≠ J) := Lib.hid fun x hx => ⟨hD.lt x hx, fun e => hJD (e ▸ hx)⟩
 have HSET := Lib.hid hs
 have HJL := Lib.hid hlt
 have hsay : d.says = 0 := by unfold DskV.says; rw [if_neg h1]
 rw [hsay] at HW
 have hsay2 : (d.wrote 0 (headL h')).says = 0 := by unfold DskV.says DskV.wrote DskV.act; simp; omega
 have HYY : Hid (Settled (d.wrote 0 (headL h')).synced ∧ (d.wrote 0 (headL h')).synced.ws = d.ws.set 0 (headL h') ∧ (d.armed = 0 → (d.wrote 0 (headL h')).synced.armed = 0)) := Lib.hid (by
  have e : ¬ (d.wrote 0 (headL h')).armed = 1 := by unfold DskV.wrote DskV.act; simp; omega
  refine ⟨⟨HLD.out.ok.synced, ?_, ?_⟩, ?_, ?_⟩
  ·unfold DskV.synced; rw [if_neg e]
  ·unfold DskV.synced; rw [if_neg e]
   simp only [DskV.wrote, DskV.act]
   simp
   omega
  ·unfold DskV.synced; rw [if_neg e]; rfl
  ·intro h0
   unfold DskV.synced; rw [if_neg e]
   simp [DskV.wrote, DskV.act, h0])
 have HSY : Hid (∀ W v, DskAt W { D with vp := v } (d.wrote 0 (headL h')) → Calls Tryz.prog 64 #[.pointer (some ⟨D.p, 0, none⟩)] W fun e w' => e = .returned (.int .i64 (d.wrote 0 (headL h')).says) ∧ DStep W { D with vp := v } (d.wrote 0 (headL h')).synced w') := Lib.hid fun W v hW => dsync_any W { D with vp := v } _ hW HLD.out.ok (by simp [DskV.wrote, DskV.act, h1])
 rw [hsay2] at HSY
 clear hsay hsay2 h1 h2 hok hs hn0 hJ hD hJD hlt c0
 unfold hAgg
 unfold hAgg at HT
 obtain ⟨gen, area, used⟩ := h'
 simp only at HB0 HKP HS0 HT ⊢
 go_enter Tryz.func40, Tryz.ntmps40
 go_wp2
 go_region_held3 (fun W => W.cell? ⟨J, 0, none⟩ = some (.pointer (some ⟨D.p, 0, none⟩)) ∧ W.cell? ⟨w.heap.size, 0, none⟩ = some (.int .i64 gen) ∧ W.cell? ⟨w.heap.size, 1, none⟩ = some (.int .i64 area) ∧ W.cell? ⟨w.heap.size, 2, none⟩ = some (.int .i64 used)) (first | exact KS2.out | exact KS.out | exact HS0.out _) (first
  | (go_at_call 63; (with_reducible refine (HT.out _).mono ?_); rintro e w2 ⟨rfl, hb2⟩; have HB2 := Lib.hid ((HB0.out _).trans (hb2.mono (HB0.out _).size)); have KS := Lib.hid (HKP.out [] _ _ (fun _ hx => by cases hx) (HS0.out _) (Upd.of_below hb2)); clear hb2; dsimp only)
  | (go_at_call 62; (with_reducible refine (HW.out _ HB2.out).mono ?_); rintro e w3 ⟨rfl, v3, hA3, hU3, hv3⟩; have KS2 := Lib.hid (HKP.out D.F _ _ HF.out KS.out hU3); have H3 := Lib.hid (And.intro hA3 (And.intro hU3 hv3)); clear hA3 hU3 hv3; dsimp only)
  | fail)
 have cj := KS2.out.1
 obtain ⟨hJ2, hD2⟩ := HKB.out _ HB2.out
 have HJ3 := Lib.hid (hJ2.step hD2 H3.out.2.1)
 have HD3 := Lib.hid H3.out.1
 clear hJ2 hD2
 go_wp2_with fail
 refine (HSY.out _ _ H3.out.1).mono ?_
 rintro e w4 ⟨rfl, v4, hA4, hU4, hv4⟩
 have hJ4 := JnlAt.step (D := { D with vp := v3 }) HJ3.out HD3.out hU4
 have d0 := hU4.cell (World.block_lt_of_cell? _ _ KS2.out.2.1) (fun e => by
  simp [DskP.F] at e
  rcases e with e | e | e | e
  ·have := (HF.out D.p (by simp [DskP.F])).1; omega
  ·have := (HF.out D.gl (by simp [DskP.F])).1; omega
  ·have := (HF.out D.gw (by simp [DskP.F])).1; omega
  ·have h8 := HF.out
   rcases H3.out.2.2 _ e with h9 | h9
   ·have := (HF.out w.heap.size (by simp [DskP.F, h9])).1; omega
   ·have h10 := World.block_lt_of_cell? _ _ KS2.out.2.1
    have h11 := World.block_lt_of_cell? _ _ KS.out.2.1
    simp at h11
    omega)
 have e0 := (d0 0).trans KS2.out.2.1
 have e1 := (d0 1).trans KS2.out.2.2.1
 have e2 := (d0 2).trans KS2.out.2.2.2
 have f1 := free_at hJ4 (k := 1); have f2 := free_at hJ4 (k := 2); have f3 := free_at hJ4 (k := 3)
 have g1 := cell_at hJ4 (k := 1) rfl; have g2 := cell_at hJ4 (k := 2) rfl; have g3 := cell_at hJ4 (k := 3) rfl
 have HJ4 := Lib.hid hJ4
 have H4 := Lib.hid (⟨v4, hA4, hU4, hv4⟩ : DStep _ _ _ _)
 clear hA4 hU4 hv4 hJ4 d0
 go_wp2
 go_ret
 obtain ⟨v5, hA5, hU5, hv5⟩ := DStep.after HB2.out (DStep.trans ⟨H3.out.2.1, H3.out.2.2⟩ H4.out)
 have hap := jnl_apart (D := { D with vp := v5 }) HJ4.out hA5
 have hx : ∀ k, k ∈ ({ D with vp := v5 } : DskP).F → (((w4.setCell ⟨J, 1, none⟩ (.int .i64 gen)).setCell ⟨J, 2, none⟩ (.int .i64 area)).setCell ⟨J, 3, none⟩ (.int .i64 used)).heap[k]? = w4.heap[k]? := fun k hk => by
  have hne : k ≠ J := fun e => hap (e ▸ hk)
  rw [Below.heap_setCell _ _ _ _ hne, Below.heap_setCell _ _ _ _ hne, Below.heap_setCell _ _ _ _ hne]
 refine ⟨0, _, v5, rfl, hA5.kept hx, ?_, hv5, Or.inl ⟨rfl, HYY.out.1, HYY.out.2.1, ?_, HYY.out.2.2⟩⟩
 ·exact (((upd_cons hU5).setCell (p := ⟨J, 1, none⟩) (Or.inl List.mem_cons_self) _).setCell (p := ⟨J, 2, none⟩) (Or.inl List.mem_cons_self) _).setCell (p := ⟨J, 3, none⟩) (Or.inl List.mem_cons_self) _
 ·unfold JnlAt
  rw [heap_set_at (heap_set_at (heap_set_at HJ4.out _) _) _]
  rfl
theorem writeHead_any (w : World) (J : Nat) (D : DskP) (d : DskV) (h h' : HeadV) (q : Bool) (hJ : JnlAt w J D.p h q) (hD : DskAt w D d) (hs : Settled d) :
  Calls Tryz.prog 40 #[.pointer (some ⟨J, 0, none⟩), hAgg h'] w (HeadRes w J D d h h' q) := by
 by_cases h1 : d.armed = 1
 ·exact writeHead_dies1 w J D d h h' q hJ hD hs h1
 ·by_cases h2 : d.armed = 2
  ·exact writeHead_dies2 w J D d h h' q hJ hD hs h1 h2
  ·exact writeHead_lasts w J D d h h' q hJ hD hs h1 h2
end Go.Proofs.YtlommddabccdeaaGreatDoor
