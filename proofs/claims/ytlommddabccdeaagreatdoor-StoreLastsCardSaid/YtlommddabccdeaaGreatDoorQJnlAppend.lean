/-
  JnlAppend.
-/
import Derived.Test.YtlommddabccdeaaGreatDoorQJnlPut
namespace Go.Proofs.YtlommddabccdeaaGreatDoor
open Go.ChangeShapes Go.WideShapes Go.ChangeAt Go.RowKit

def PutAny (w : World) (J : Nat) (D : DskP) (d : DskV) (h : HeadV) (rs : List (List UInt8)) (h' : HeadV) (rs' : List (List UInt8)) (e : Ending) (w' : World) : Prop :=
  ∃ E d' v', e = .returned (.int .i64 E) ∧ DskAt w' { D with vp := v' } d' ∧ Upd (J :: D.F) w w' ∧ (∀ g, v'.ownBlock = some g → D.vp.ownBlock = some g ∨ w.heap.size ≤ g) ∧ PutRes d h rs h' rs' E d' ∧ ((E = 0 ∧ JnlAt w' J D.p h' false) ∨ (E = 2 ∧ JnlAt w' J D.p h true))
theorem LayRes.cell {w w0 w3 : World} {J : Nat} {D : DskP} {d : DskV} {h h' : HeadV} {d' : DskV} {v' : Value} {E : Int} (hD : DskAt w D d) (hJ : JnlAt w J D.p h false) (hb : Below w.heap.size w w0) (hz : w.heap.size < w0.heap.size)
    (hA : DskAt w3 { D with vp := v' } d') (hU : Upd (J :: D.F) w0 w3) (hv : ∀ g, v'.ownBlock = some g → D.vp.ownBlock = some g ∨ w0.heap.size ≤ g) (hj : (E = 0 ∧ JnlAt w3 J D.p h' false) ∨ (E = 2 ∧ JnlAt w3 J D.p h false)) (u : Value) :
    DskAt (w3.setCell ⟨w.heap.size, 0, none⟩ u) { D with vp := v' } d' ∧ Upd (J :: D.F) w (w3.setCell ⟨w.heap.size, 0, none⟩ u) ∧ (∀ g, v'.ownBlock = some g → D.vp.ownBlock = some g ∨ w.heap.size ≤ g) ∧ ((E = 0 ∧ JnlAt (w3.setCell ⟨w.heap.size, 0, none⟩ u) J D.p h' false) ∨ (E = 2 ∧ JnlAt (w3.setCell ⟨w.heap.size, 0, none⟩ u) J D.p h false)) := by
  have hlt := hD.lt
  have hJl := lt_of_heap hJ
  have hJne : J ≠ w.heap.size := by omega
  refine ⟨hA.kept fun k hk => Below.heap_setCell _ _ _ _ (fun e => ?_), ((Upd.of_below hb).step hU (fun _ hx => hx)).setCell (Or.inr (Nat.le_refl _)) _, fun g hg => (hv g hg).imp id (Nat.le_trans hb.size), ?_⟩
  · have e2 : k = w.heap.size := e
    simp [DskP.F] at hk
    rcases hk with h1 | h1 | h1 | h1
    · have := hlt D.p (by simp [DskP.F]); omega
    · have := hlt D.gl (by simp [DskP.F]); omega
    · have := hlt D.gw (by simp [DskP.F]); omega
    · rcases hv k h1 with h2 | h2
      · have := hlt k (by simp [DskP.F, h2]); omega
      · omega
  · rcases hj with ⟨h1, h2⟩ | ⟨h1, h2⟩
    · exact Or.inl ⟨h1, (Below.heap_setCell _ _ _ _ hJne).trans h2⟩
    · exact Or.inr ⟨h1, (Below.heap_setCell _ _ _ _ hJne).trans h2⟩
set_option maxHeartbeats 1600000 in
theorem put_any (w : World) (J : Nat) (D : DskP) (d : DskV) (h : HeadV) (hJ : JnlAt w J D.p h false) (hD : DskAt w D d) (hs : Settled d) (rs rs0 : List (List UInt8)) (hi : ImgOk d.ws h rs) (hg : h.gen ≠ 4611686018427387904) (area behind : Nat) (hk : PutKind h rs area behind rs0) (s : List UInt8) (hsl : s.length ≤ 60000) (hb : behind + 2 + s.length ≤ arN d.ws * 64) :
    Calls Tryz.prog 76 #[.pointer (some ⟨J, 0, none⟩), .string (bOf s), .int .i64 area, .int .i64 behind] w (PutAny w J D d h rs (putH h area behind s) (rs0 ++ [s])) := by
  have hA := areaN_le hs.ok
  have eA : arN d.ws = areaN d := rfl
  have HB0 : Hid (Below w.heap.size w (w.alloc (Obj.cells #[.int .i64 2] 29)) ∧ w.heap.size < (w.alloc (Obj.cells #[.int .i64 2] 29)).heap.size) := Lib.hid ⟨(Below.refl _ w).alloc (Nat.le_refl _) _, by simp⟩
  have HL : Hid (∀ W, Below w.heap.size w W → Calls Tryz.prog 66 #[.pointer (some ⟨J, 0, none⟩)] W fun e w' => e = .returned (.bool true) ∧ W = w') := Lib.hid fun W hW => by
    have := lives_any W J D d h false (hJ.below hW) (hD.below hW)
    rw [hs.live] at this
    exact this
  have HAB : Hid (∀ W, Below w.heap.size w W → Calls Tryz.prog 56 #[.pointer (some ⟨J, 0, none⟩)] W fun e w' => e = .returned (.int .i64 ((areaN d * 64 : Nat) : Int)) ∧ W = w') := Lib.hid fun W hW => areaBytes_any W J D d h false (hJ.below hW) (hD.below hW) hs.ok
  have HTK : Hid (∀ W, Calls Tryz.prog 108 #[.string (bOf s)] W fun e w' => e = .returned (.int .i64 ((2 + s.length : Nat) : Int)) ∧ W = w') := Lib.hid fun W => by
    have := takes_any W (bOf s) (by rw [bOf_size]; omega)
    rw [bOf_size] at this
    exact this
  have HLY : Hid (∀ W, Below w.heap.size w W → Calls Tryz.prog 109 #[.pointer (some ⟨J, 0, none⟩), .string (bOf s), .int .i64 area, .int .i64 behind] W (LayRes W J D d h rs (putH h area behind s) (rs0 ++ [s]) false)) := Lib.hid fun W hW =>
    jlay_any W J D d h false (hJ.below hW) (hD.below hW) hs rs rs0 hi hg area behind hk s hsl hb
  have HD := Lib.hid hD
  have HJ := Lib.hid hJ
  have HNE : Hid (w.heap.size ∉ J :: D.F) := Lib.hid fun hx => by
    rcases List.mem_cons.1 hx with e | e
    · have := lt_of_heap hJ; omega
    · have := hD.lt _ e; omega
  have c1 := (HB0.out.1.cell (p := ⟨J, 1, none⟩) (lt_of_heap hJ)).trans (cell_at hJ (k := 1) rfl)
  have hsz : (bOf s).size = s.length := bOf_size s
  have q1 : ¬ (s.length : Int) > 60000 := by omega
  have q2 : ¬ (h.gen : Int) = 4611686018427387904 := by omega
  obtain ⟨AB, hAB⟩ : ∃ AB : Int, ((areaN d * 64 : Nat) : Int) = AB := ⟨_, rfl⟩
  obtain ⟨TK, hTK⟩ : ∃ TK : Int, ((2 + s.length : Nat) : Int) = TK := ⟨_, rfl⟩
  have hw1 : IntKind.i64.wrap (AB - (behind : Int)) = AB - (behind : Int) := IntWalk.i64_in _ (by omega)
  have q3 : ¬ TK > AB - (behind : Int) := by omega
  rw [hAB] at HAB
  rw [hTK] at HTK
  clear hJ hD hs hi hg hk hb hA eA hAB hTK hsl
  obtain ⟨N, hN⟩ : ∃ N, s.length = N := ⟨_, rfl⟩
  rw [hN] at hsz q1
  clear hN
  obtain ⟨SB, hSB⟩ : ∃ SB, bOf s = SB := ⟨_, rfl⟩
  rw [hSB] at HTK HLY hsz ⊢
  clear hSB
  go_enter_defers Tryz.func76, Tryz.ntmps76
  go_wp2_with (first
    | (go_at_call 66; refine (HL.out _ HB0.out.1).mono ?_; rintro e w2 ⟨rfl, rfl⟩)
    | (go_at_call 56; refine (HAB.out _ HB0.out.1).mono ?_; rintro e w2 ⟨rfl, rfl⟩)
    | (go_at_call 108; (with_reducible refine (HTK.out _).mono ?_); rintro e w2 ⟨rfl, rfl⟩))
  refine (HLY.out _ HB0.out.1).mono ?_
  rintro e w3 ⟨E, d3, v3, rfl, hA3, hU3, hv3, hP3, hj3⟩
  have hE : w3.heap[w.heap.size]? = some (.cells #[.int .i64 2] 29 (0, 0)) := by
    rw [hU3.block _ HB0.out.2 HNE.out]
    exact heap_alloc_new w _
  have c0 := cell_at hE (k := 0) rfl
  have f0 := free_at hE (k := 0)
  have HC := Lib.hid (LayRes.cell HD.out HJ.out HB0.out.1 HB0.out.2 hA3 hU3 hv3 hj3 (.int .i64 E))
  have HP := Lib.hid hP3
  have HE := Lib.hid hE
  clear hA3 hU3 hv3 hP3 hj3 hE
  go_wp2
  have r0 : (w3.setCell ⟨w.heap.size, 0, none⟩ (.int .i64 E)).cell? ⟨w.heap.size, 0, none⟩ = some (.int .i64 E) := World.cell?_setCell_same _ _ _ c0
  refine leaves_cons (f := 65) (args := #[.pointer (some ⟨J, 0, none⟩), .pointer (some ⟨w.heap.size, 0, none⟩)]) (by simp) (by simp [go_sem]) ?_
  obtain ⟨hA, hU, hv, hj⟩ := HC.out
  rcases hj with ⟨rfl, hj⟩ | ⟨rfl, hj⟩
  · refine (settleD_else _ _ J w.heap.size 0 (by decide) r0).mono ?_
    rintro e u' w'' ⟨rfl, rfl, rfl⟩
    have HF : Hid (PutAny w J D d h rs (putH h area behind s) (rs0 ++ [s]) (.returned (.int .i64 0)) (w3.setCell ⟨w.heap.size, 0, none⟩ (.int .i64 0))) := Lib.hid ⟨0, d3, v3, rfl, hA, hU, hv, HP.out, Or.inl ⟨rfl, hj⟩⟩
    clear hA hU hv hj
    simp [Leaves, settle, results, Tryz.results76, go_sem, r0]
    exact HF.out
  · refine (settleD_dead _ _ J D.p w.heap.size h false hj r0).mono ?_
    rintro e u' w'' ⟨rfl, rfl, rfl⟩
    have hlt := lt_of_heap HJ.out
    have hap := jnl_apart (D := { D with vp := v3 }) hj hA
    have HF : Hid (PutAny w J D d h rs (putH h area behind s) (rs0 ++ [s]) (.returned (.int .i64 2)) ((w3.setCell ⟨w.heap.size, 0, none⟩ (.int .i64 2)).setCell ⟨J, 4, none⟩ (.bool true))) := Lib.hid ⟨2, d3, v3, rfl, hA.kept (fun k hk => Below.heap_setCell _ _ _ _ (fun e => hap (by have e2 : k = J := e; rw [← e2]; exact hk))), hU.setCell (Or.inl List.mem_cons_self) _, hv, HP.out, Or.inr ⟨rfl, by unfold JnlAt; rw [heap_set_at hj]; rfl⟩⟩
    have r1 : ((w3.setCell ⟨w.heap.size, 0, none⟩ (.int .i64 2)).setCell ⟨J, 4, none⟩ (.bool true)).cell? ⟨w.heap.size, 0, none⟩ = some (.int .i64 2) := by
      rw [World.cell?_setCell_other _ _ _ _ (fun e => by injection e with e; omega)]
      exact r0
    clear hA hU hv hj hap
    simp [Leaves, settle, results, Tryz.results76, go_sem, r1]
    exact HF.out
theorem append_any (w : World) (J : Nat) (D : DskP) (d : DskV) (h : HeadV) (hJ : JnlAt w J D.p h false) (hD : DskAt w D d) (hs : Settled d) (rs : List (List UInt8)) (hi : ImgOk d.ws h rs) (hg : h.gen ≠ 4611686018427387904) (s : List UInt8) (hsl : s.length ≤ 60000) (hb : h.used + 2 + s.length ≤ arN d.ws * 64) :
    Calls Tryz.prog 50 #[.pointer (some ⟨J, 0, none⟩), .string (bOf s)] w (PutAny w J D d h rs (putH h h.area h.used s) (rs ++ [s])) := by
  have HP := Lib.hid (put_any w.drew J D d h hJ (hD.below ⟨rfl, rfl, rfl, Nat.le_refl _, fun _ _ => rfl⟩) hs rs rs hi hg h.area h.used (Or.inl ⟨rfl, rfl, rfl⟩) s hsl hb)
  have HW : Hid (∀ e w', PutAny w.drew J D d h rs (putH h h.area h.used s) (rs ++ [s]) e w' → PutAny w J D d h rs (putH h h.area h.used s) (rs ++ [s]) e w') := Lib.hid fun e w' ⟨E, d', v', h1, h2, h3, h4⟩ => ⟨E, d', v', h1, h2, ⟨h3.os, h3.tape, h3.output, h3.size, h3.block⟩, h4⟩
  have c2 := cell_at hJ (k := 2) rfl
  have c3 := cell_at hJ (k := 3) rfl
  clear hJ hD hs hi hg hsl hb
  obtain ⟨SB, hSB⟩ : ∃ SB, bOf s = SB := ⟨_, rfl⟩
  rw [hSB] at HP ⊢
  clear hSB
  go_enter Tryz.func50, Tryz.ntmps50
  go_wp2
  go_region_law (first
    | (go_simp; (with_reducible refine HP.out.mono ?_); rintro e w2 ⟨E, d', v', rfl, hr⟩; have HR := Lib.hid hr; clear hr; dsimp only)
    | fail)
  all_goals
    go_wp2
    go_ret
    exact HW.out _ _ ⟨E, d', v', rfl, HR.out⟩
theorem renew_any (w : World) (J : Nat) (D : DskP) (d : DskV) (h : HeadV) (hJ : JnlAt w J D.p h false) (hD : DskAt w D d) (hs : Settled d) (rs : List (List UInt8)) (hi : ImgOk d.ws h rs) (hg : h.gen ≠ 4611686018427387904) (s : List UInt8) (hsl : s.length ≤ 60000) (hb : 2 + s.length ≤ arN d.ws * 64) :
    Calls Tryz.prog 52 #[.pointer (some ⟨J, 0, none⟩), .string (bOf s)] w (PutAny w J D d h rs (putH h (1 - h.area) 0 s) [s]) := by
  have HP := Lib.hid (put_any w J D d h hJ hD hs rs [] hi hg (1 - h.area) 0 (Or.inr ⟨rfl, rfl, rfl⟩) s hsl (by omega))
  have HO := Lib.hid (fun W => otherArea_any W h.area hi.area)
  have c2 := cell_at hJ (k := 2) rfl
  clear hJ hD hs hi hg hsl hb
  obtain ⟨SB, hSB⟩ : ∃ SB, bOf s = SB := ⟨_, rfl⟩
  rw [hSB] at HP ⊢
  clear hSB
  obtain ⟨OA, hOA⟩ : ∃ OA : Int, ((1 - h.area : Nat) : Int) = OA := ⟨_, rfl⟩
  rw [hOA] at HP HO
  clear hOA
  go_enter Tryz.func52, Tryz.ntmps52
  go_wp2_with (first
    | (go_at_call 77; refine (HO.out _).mono ?_; rintro e w2 ⟨rfl, rfl⟩)
    | (go_at_call 76; refine HP.out.mono ?_; rintro e w2 ⟨E, d', v', rfl, hr⟩; have HR := Lib.hid hr; clear hr))
  go_ret
  exact ⟨E, d', v', rfl, HR.out⟩
def h0 : HeadV := ⟨0, 0, 0⟩
theorem img_h0 (ws : List (List UInt8)) (hlo : 0 < ws.length) : ImgOk (ws.set 0 (headL h0)) h0 [] := by
  refine ⟨by simp [List.getD, hlo], by decide, by decide, Nat.zero_le _, rfl, fun r hr => by cases hr⟩
def FormatRes (w : World) (D : DskP) (d : DskV) (e : Ending) (w' : World) : Prop :=
  ∃ E d' v' P, e = .returned (.tuple #[P, .int .i64 E]) ∧ DskAt w' { D with vp := v' } d' ∧ Upd D.F w w' ∧ (∀ g, v'.ownBlock = some g → D.vp.ownBlock = some g ∨ w.heap.size ≤ g) ∧
    ((E = 0 ∧ ∃ J, P = .pointer (some ⟨J, 0, none⟩) ∧ JnlAt w' J D.p h0 false ∧ w.heap.size ≤ J ∧ Settled d' ∧ ImgOk d'.ws h0 [] ∧ d'.ws.length = d.ws.length ∧ (d.armed = 0 → d'.armed = 0)) ∨
     (E = 2 ∧ P = .pointer none ∧ d'.dead = true ∧ DskOk d' ∧ (d.armed = 1 ∨ d.armed = 2) ∧ ∀ img, Mixed d' img → img = d.ws ∨ img = d.ws.set 0 (headL h0)))
set_option maxHeartbeats 800000 in
theorem format_any (w : World) (D : DskP) (d : DskV) (hD : DskAt w D d) (hs : Settled d) :
    Calls Tryz.prog 24 #[.pointer (some ⟨D.p, 0, none⟩)] w (FormatRes w D d) := by
  have hb : Below w.heap.size w (w.alloc (Obj.cells #[.pointer (some ⟨D.p, 0, none⟩), .int .i64 0, .int .i64 0, .int .i64 0, .bool false] 87)) := (Below.refl _ w).alloc (Nat.le_refl _) _
  have hJ : JnlAt (w.alloc (Obj.cells #[.pointer (some ⟨D.p, 0, none⟩), .int .i64 0, .int .i64 0, .int .i64 0, .bool false] 87)) w.heap.size D.p h0 false := heap_alloc_new w _
  have HW : Hid (Calls Tryz.prog 40 #[.pointer (some ⟨w.heap.size, 0, none⟩), .agg #[.int .i64 0, .int .i64 0, .int .i64 0]] (w.alloc (Obj.cells #[.pointer (some ⟨D.p, 0, none⟩), .int .i64 0, .int .i64 0, .int .i64 0, .bool false] 87)) (HeadRes (w.alloc (Obj.cells #[.pointer (some ⟨D.p, 0, none⟩), .int .i64 0, .int .i64 0, .int .i64 0, .bool false] 87)) w.heap.size D d h0 h0 false)) := Lib.hid (writeHead_any _ w.heap.size D d h0 h0 false hJ (hD.below hb) hs)
  have HB := Lib.hid hb
  have HS := Lib.hid hs
  have HLT : Hid (∀ k ∈ D.F, k < w.heap.size) := Lib.hid hD.lt
  clear hJ hD hs hb
  go_enter Tryz.func24, Tryz.ntmps24
  go_wp2_with fail
  refine HW.out.mono ?_
  rintro e w2 ⟨E, d', v', rfl, hA, hU, hv, hc⟩
  have hU2 : Upd D.F w w2 := by
    have h1 := (Upd.of_below (F := w.heap.size :: D.F) HB.out).step hU (fun _ hx => hx)
    refine ⟨h1.os, h1.tape, h1.output, h1.size, fun k hk hn => h1.block k hk (fun hx => ?_)⟩
    rcases List.mem_cons.1 hx with e | e
    · omega
    · exact hn e
  have HU := Lib.hid hU2
  have HV : Hid (∀ g, v'.ownBlock = some g → D.vp.ownBlock = some g ∨ w.heap.size ≤ g) := Lib.hid fun g hg => (hv g hg).imp id (Nat.le_trans HB.out.size)
  have HA := Lib.hid hA
  clear hA hU hv hU2
  rcases hc with ⟨rfl, h2, h3, h4⟩ | ⟨rfl, h2, h3, h4, h5⟩
  · have HC := Lib.hid (And.intro h2 (And.intro h3 h4))
    clear h2 h3 h4
    go_wp2
    go_ret2
    have hlo := HS.out.ok.lo
    exact ⟨0, d', v', _, rfl, HA.out, HU.out, HV.out, Or.inl ⟨rfl, w.heap.size, rfl, HC.out.2.2.1, Nat.le_refl _, HC.out.1, by rw [HC.out.2.1]; exact img_h0 _ (by omega), by rw [HC.out.2.1, List.length_set], HC.out.2.2.2⟩⟩
  · have HC := Lib.hid (And.intro h2 (And.intro h3 (And.intro h4 h5)))
    clear h2 h3 h4 h5
    go_wp2
    go_ret2
    exact ⟨2, d', v', _, rfl, HA.out, HU.out, HV.out, Or.inr ⟨rfl, rfl, HC.out.1, HC.out.2.1.ok, HC.out.2.2.2, fun img hm => mixed_head HS.out.ok HC.out.2.1 hm⟩⟩
end Go.Proofs.YtlommddabccdeaaGreatDoor
