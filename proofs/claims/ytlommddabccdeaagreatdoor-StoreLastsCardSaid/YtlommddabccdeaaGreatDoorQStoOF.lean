/-
  StoOF.
-/
import Derived.Test.YtlommddabccdeaaGreatDoorQStoAll
namespace Go.Proofs.YtlommddabccdeaaGreatDoor
open Go.ChangeShapes Go.WideShapes Go.ChangeAt Go.RowKit

theorem jopen_nil (w : World) : Calls Tryz.prog 35 #[.pointer none] w fun e w' => e = .returned (.tuple #[.pointer none, .int .i64 1]) ∧ Below w.heap.size w w' := by
 go_enter Tryz.func35, Tryz.ntmps35
 go_wp2
 go_ret2
 exact ⟨rfl, Below.refl _ _⟩
theorem open_nil (w : World) : Calls Tryz.prog 18 #[.pointer none] w fun e w' => e = .returned (.tuple #[.pointer none, .int .i64 1]) ∧ Below w.heap.size w w' := by
 have HJ := Lib.hid (jopen_nil w)
 go_enter Tryz.func18, Tryz.ntmps18
 go_wp2_with (go_at_call 35; refine HJ.out.mono ?_; rintro e w2 ⟨rfl, hb2⟩; have HB2 := Lib.hid hb2; clear hb2)
 go_ret2
 exact ⟨rfl, HB2.out⟩
theorem open_any (w : World) (D : DskP) (d : DskV) (hD : DskAt w D d) (hs : Settled d) (h : HeadV) (rs : List (List UInt8)) (ps : List PairV) (hi : ImgOk d.ws h rs) (hr : Says rs ps) (hT : StdX w) :
  Calls Tryz.prog 18 #[.pointer (some ⟨D.p, 0, none⟩)] w fun e w' => ∃ S FS X, e = .returned (.tuple #[.pointer (some ⟨S, 0, none⟩), .int .i64 0]) ∧ StoOk w' S D d FS X ∧ X.h = h ∧ X.ps = ps ∧ X.opn = false ∧ (∀ k ∈ FS, w.heap.size ≤ k) ∧ Below w.heap.size w w' := by
 have HJ := Lib.hid (jopen_any w D d hD hs.ok hs.live h rs hi)
 have HTN : Hid (∀ W J, Below w.heap.size w W → JnlAt W J D.p h false → Calls Tryz.prog 36 #[.pointer (some ⟨J, 0, none⟩)] W fun e w' => ∃ S M n, e = .returned (.tuple #[.pointer (some ⟨S, 0, none⟩), .int .i64 0]) ∧ w'.heap[S]? = some (.cells #[.pointer (some ⟨J, 0, none⟩), .map (some M), .map none] 61 (0, 0)) ∧ KMap w' M n (comF ps) ∧ W.heap.size ≤ S ∧ W.heap.size ≤ M ∧ Below W.heap.size W w') := Lib.hid fun W J hW hJ =>
  taken_any W J D d h hJ (hD.below hW) hs.ok hs.live rs hi ps hr (hT.below hW)
 have HFIN : Hid (∀ W w' J S M n, Below w.heap.size w W → JnlAt W J D.p h false → w.heap.size ≤ J → w'.heap[S]? = some (.cells #[.pointer (some ⟨J, 0, none⟩), .map (some M), .map none] 61 (0, 0)) → KMap w' M n (comF ps) → W.heap.size ≤ S → W.heap.size ≤ M → Below W.heap.size W w' → ∃ FS X, StoOk w' S D d FS X ∧ X.h = h ∧ X.ps = ps ∧ X.opn = false ∧ (∀ k ∈ FS, w.heap.size ≤ k) ∧ Below w.heap.size w w') := Lib.hid fun W w' J S M n hW hJ hJ2 hS hm g1 g2 hb => by
  have hww := hW.trans (hb.mono hW.size)
  have hz := hW.size
  have hall : ∀ k ∈ S :: J :: M :: (none : Option Nat).toList, w.heap.size ≤ k := fun k hk => by
   simp at hk
   rcases hk with rfl | rfl | rfl <;> omega
  refine ⟨S :: J :: M :: (none : Option Nat).toList, ⟨h, rs, ps, [], false⟩, ⟨⟨J, M, none, ⟨hS, hJ.below hb, ⟨n, hm⟩, rfl, nofun⟩, rfl⟩, hD.below hww, hs, hi, hr, hr.right, nofun, fun k hk hx => ?_⟩, rfl, rfl, rfl, hall, hww⟩
  have h1 := hall k hk
  have h2 := hD.lt k hx
  omega
 clear hD hs hi hr hT
 go_enter Tryz.func18, Tryz.ntmps18
 go_wp2_with (first
  | (go_at_call 35; refine HJ.out.mono ?_; rintro e w1 ⟨J, rfl, hj1, hg1, hb1⟩; have H1 := Lib.hid (And.intro hj1 (And.intro hg1 hb1)); clear hj1 hg1 hb1)
  | (go_at_call 36; refine (HTN.out _ _ H1.out.2.2 H1.out.1).mono ?_; rintro e w2 ⟨S, M, n, rfl, ho2, hm2, g1, g2, hb2⟩; have H2 := Lib.hid (And.intro ho2 (And.intro hm2 (And.intro g1 (And.intro g2 hb2)))); clear ho2 hm2 g1 g2 hb2))
 go_ret2
 obtain ⟨FS, X, hf⟩ := HFIN.out _ _ _ _ _ _ H1.out.2.2 H1.out.1 H1.out.2.1 H2.out.1 H2.out.2.1 H2.out.2.2.1 H2.out.2.2.2.1 H2.out.2.2.2.2
 exact ⟨S, FS, X, rfl, hf⟩
theorem sformat_any (w : World) (D : DskP) (d : DskV) (hD : DskAt w D d) (hs : Settled d) (ha : d.armed = 0) :
  Calls Tryz.prog 8 #[.pointer (some ⟨D.p, 0, none⟩)] w fun e w' => ∃ S FS X d' v', e = .returned (.tuple #[.pointer (some ⟨S, 0, none⟩), .int .i64 0]) ∧ StoOk w' S { D with vp := v' } d' FS X ∧ X.h = h0 ∧ X.ps = [] ∧ X.opn = false ∧ (∀ k ∈ FS, w.heap.size ≤ k) ∧ Upd D.F w w' ∧ (∀ g, v'.ownBlock = some g → D.vp.ownBlock = some g ∨ w.heap.size ≤ g) ∧ d'.ws.length = d.ws.length ∧ d'.armed = 0 := by
 have HJ := Lib.hid (format_any w D d hD hs)
 have HA := Lib.hid ha
 have hmk := makeK
 clear hD hs ha
 go_enter Tryz.func8, Tryz.ntmps8
 go_wp2_with fail
 refine HJ.out.mono ?_
 rintro e w1 ⟨E, d', v', P, rfl, hA, hU, hv, hc⟩
 rcases hc with ⟨rfl, J, rfl, hJ, hJ2, hs', hi', hl', ha'⟩ | ⟨_, _, _, _, h6, _⟩
 ·have H1 := Lib.hid (And.intro hA (And.intro hU (And.intro hv (And.intro hJ (And.intro hJ2 (And.intro hs' (And.intro hi' (And.intro hl' ha'))))))))
  clear hA hU hv hJ hJ2 hs' hi' hl' ha'
  go_wp2
  go_ret2
  obtain ⟨a1, a2, a3, a4, a5, a6, a7, a8, a9⟩ := H1.out
  have hb1 : Below w1.heap.size w1 (w1.alloc (Obj.map #[] 0)) := (Below.refl _ w1).alloc (Nat.le_refl _) _
  have hz : (w1.alloc (Obj.map #[] 0)).heap.size = w1.heap.size + 1 := by simp
  have hb2 : Below (w1.alloc (Obj.map #[] 0)).heap.size (w1.alloc (Obj.map #[] 0)) ((w1.alloc (Obj.map #[] 0)).alloc (Obj.cells #[.pointer (some ⟨J, 0, none⟩), .map (some w1.heap.size), .map none] 61)) := (Below.refl _ _).alloc (Nat.le_refl _) _
  have hb3 := hb1.trans (hb2.mono (by omega))
  have hS := heap_alloc_new (w1.alloc (Obj.map #[] 0)) (Obj.cells #[.pointer (some ⟨J, 0, none⟩), .map (some w1.heap.size), .map none] 61)
  rw [hz] at hS
  have hsz := a2.size
  have hall : ∀ k ∈ (w1.heap.size + 1) :: J :: w1.heap.size :: (none : Option Nat).toList, w.heap.size ≤ k := fun k hk => by
   simp at hk
   rcases hk with rfl | rfl | rfl <;> omega
  refine ⟨w1.heap.size + 1, (w1.heap.size + 1) :: J :: w1.heap.size :: (none : Option Nat).toList, ⟨h0, [], [], [], false⟩, d', v', rfl, ⟨⟨J, w1.heap.size, none, ⟨hS, a4.below hb3, ⟨0, (KMap.made w1).below hb2⟩, rfl, nofun⟩, rfl⟩, a1.below hb3, a6, a7, Says.none_, ⟨List.Pairwise.nil, nofun, Nat.zero_le _⟩, nofun, fun k hk hx => ?_⟩, rfl, rfl, rfl, hall, a2.trans (Upd.of_below (F := []) hb3) (fun x hx => absurd hx List.not_mem_nil), a3, a8, a9 HA.out⟩
  simp at hk
  rcases hk with rfl | rfl | rfl
  ·have := a1.lt _ hx; omega
  ·exact jnl_apart (D := { D with vp := v' }) a4 a1 hx
  ·have := a1.lt _ hx; omega
 ·have := HA.out
  omega
end Go.Proofs.YtlommddabccdeaaGreatDoor
