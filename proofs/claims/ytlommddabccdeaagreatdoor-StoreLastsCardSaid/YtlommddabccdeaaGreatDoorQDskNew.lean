/-
  DskSync, DskNew.
-/
import Derived.Test.YtlommddabccdeaaGreatDoorQDskWrite
import Derived.Lib.SliceRun
import Derived.Laws.MakeOwn
namespace Go.Proofs.YtlommddabccdeaaGreatDoor
open Go.ChangeShapes Go.WideShapes Go.ChangeAt Go.RowKit

set_option maxHeartbeats 800000 in
theorem dsync_any (w : World) (D : DskP) (d : DskV) (h : DskAt w D d) (hok : DskOk d) (hd : d.dead = false) :
    Calls Tryz.prog 64 #[.pointer (some ⟨D.p, 0, none⟩)] w fun e w' => e = .returned (.int .i64 d.says) ∧ DStep w D d.synced w' := by
  have c5 := cell_at h.obj (k := 5) rfl
  rw [hd] at c5
  have HACT := Lib.hid (dact_any w D d h hok hd)
  have HOK := Lib.hid hok
  have HA := Lib.hid h
  clear h hok hd
  by_cases h1 : d.armed = 1
  · have hs : d.says = 2 := by unfold DskV.says; rw [if_pos h1]
    have HY : Hid (d.synced = d.act) := Lib.hid (by unfold DskV.synced; rw [if_pos h1])
    rw [hs] at HACT ⊢
    clear hs h1
    go_enter Tryz.func64, Tryz.ntmps64
    go_wp2_with (go_at_call 98; refine HACT.out.mono ?_; rintro e w6 ⟨rfl, hA6, hb6⟩)
    go_ret
    refine ⟨rfl, D.vp, by rw [HY.out]; exact hA6, Upd.mono (Upd.of_but hb6) (fun x hx => ?_), fun g hg => Or.inl hg⟩
    rw [List.mem_singleton.1 hx]
    simp [DskP.F]
  · have hs : d.says = 0 := by unfold DskV.says; rw [if_neg h1]
    have HY : Hid (d.synced = { d.act with ls := d.ws, ps := [] }) := Lib.hid (by unfold DskV.synced; rw [if_neg h1])
    rw [hs] at HACT ⊢
    clear hs h1
    obtain ⟨va, vn, vc, hv⟩ := HA.out.rp.shape'
    have HV := Lib.hid hv
    have HK : Hid (∀ W, DskAt W D d.act → Calls Tryz.prog 33 #[.pointer (some ⟨D.p, 0, none⟩), .slice va vn vc] W fun e w' => e = .returned (.tuple #[]) ∧ DskAt w' D { d.act with ls := d.ws } ∧ But D.gl W w') := Lib.hid fun W hW => by
      have := dkeep_any W D d.act hW HOK.out.act.w D.vp d.ps hW.rp HOK.out.lt (by have := HOK.out.plen; omega)
      rw [hv] at this
      have e := sync_copy HOK.out.act
      have e1 : d.act.ps = d.ps := rfl
      rw [e1] at e
      rw [e] at this
      exact this
    clear hv
    go_enter Tryz.func64, Tryz.ntmps64
    go_wp2_with (first
      | (go_at_call 98; refine HACT.out.mono ?_; rintro e w6 ⟨rfl, hA6, hb6⟩
         have c2 := cell_at hA6.obj (k := 2) rfl
         rw [show (#[Value.slice (some ⟨D.gl, 0, none⟩) d.act.ls.length D.cl, .slice (some ⟨D.gw, 0, none⟩) d.act.ws.length D.cw, D.vp, .int .i64 d.act.acts, .int .i64 (d.act.armed : Int), .bool d.act.dead] : Array Value)[2] = .slice va vn vc from HV.out] at c2
         have HA6 := Lib.hid hA6
         have HB6 := Lib.hid hb6
         clear hA6 hb6)
      | (go_at_call 33; refine (HK.out _ HA6.out).mono ?_; rintro e w7 ⟨rfl, hA7, hb7⟩
         have c2' := cell_at hA7.obj (k := 2) rfl
         have f2' := free_at hA7.obj (k := 2)
         have HA7 := Lib.hid hA7
         have HB7 := Lib.hid hb7
         clear hA7 hb7))
    go_ret
    refine ⟨rfl, .slice none 0 0, ?_, ?_, fun g hg => by cases hg⟩
    · rw [HY.out]
      exact HA7.out.vpset (HeldN.nil_ _) (fun _ _ => rfl)
    · refine (((Upd.of_but HB6.out).mono (fun x hx => ?_)).step (Upd.of_but HB7.out) (fun x hx => ?_)).setCell (Or.inl ?_) _
      · rw [List.mem_singleton.1 hx]; simp [DskP.F]
      · rw [List.mem_singleton.1 hx]; simp [DskP.F]
      · simp [DskP.F]
theorem dpending_any (w : World) (D : DskP) (d : DskV) (h : DskAt w D d) (hok : DskOk d) :
    Calls Tryz.prog 16 #[.pointer (some ⟨D.p, 0, none⟩)] w fun e w' => ∃ v', e = .returned v' ∧ HeldN w' v' d.ps ∧ (∀ g, v'.ownBlock = some g → w.heap.size ≤ g) ∧ Below w.heap.size w w' := by
  have HC := Lib.hid (dclone_any w D.vp d.ps h.rp (by have := hok.plen; omega))
  have c2 := cell_at h.obj (k := 2) rfl
  obtain ⟨va, vn, vc, hv⟩ := h.rp.shape'
  have c2x : w.cell? ⟨D.p, 2, none⟩ = some (.slice va vn vc) := by rw [c2]; exact congrArg some hv
  rw [hv] at HC
  clear h hok c2 hv
  go_enter Tryz.func16, Tryz.ntmps16
  go_wp2_with (go_at_call 31; refine HC.out.mono ?_; rintro e w2 ⟨v2, rfl, hh2⟩; have HH := Lib.hid hh2; clear hh2)
  go_ret
  exact ⟨_, rfl, HH.out⟩
theorem outOf_mem : ∀ (ks ps : List Nat), OutOf ps ks → ∀ k ∈ ks, k ∈ ps
  | [], _, _, _, h => by cases h
  | a :: r, ps, ho, k, h => by
    rcases List.mem_cons.1 h with rfl | h
    · exact ho.1
    · exact List.mem_of_mem_erase (outOf_mem r _ ho.2 k h)
theorem fold_mem (ks ps : List Nat) : ∀ k ∈ ks.foldl List.erase ps, k ∈ ps := by
  induction ks generalizing ps with
  | nil => exact fun k h => h
  | cons a r ih => exact fun k h => List.mem_of_mem_erase (ih _ k h)
set_option maxHeartbeats 800000 in
theorem dcrash_any (w : World) (D : DskP) (d : DskV) (h : DskAt w D d) (hok : DskOk d) (kv : Value) (ks : List Nat) (hk : HeldN w kv ks) (ho : OutOf d.ps ks) (hkn : ks.length ≤ 5000) :
    Calls Tryz.prog 17 #[.pointer (some ⟨D.p, 0, none⟩), kv] w fun e w' => e = .returned (.int .i64 0) ∧ DStep w D (d.crashed ks) w' := by
  have c2 := cell_at h.obj (k := 2) rfl
  obtain ⟨va, vn, vc, hv⟩ := h.rp.shape'
  have c2x : w.cell? ⟨D.p, 2, none⟩ = some (.slice va vn vc) := by rw [c2]; exact congrArg some hv
  have HW := Lib.hid (dwithout_any w D.vp kv d.ps ks h.rp hk (by have := hok.plen; omega) hkn ho)
  rw [hv] at HW
  obtain ⟨ka, kn, kc, hkv⟩ := hk.shape'
  subst hkv
  have HK : Hid (∀ W, Below w.heap.size w W → Calls Tryz.prog 33 #[.pointer (some ⟨D.p, 0, none⟩), .slice ka kn kc] W fun e w' => e = .returned (.tuple #[]) ∧ DskAt w' D { d with ls := copyL d.ws d.ls ks } ∧ But D.gl W w') := Lib.hid fun W hW =>
    dkeep_any W D d (h.below hW) hok.w _ ks (hk.kept fun g hg => hW.block g (hk.lt hg)) (fun k hk => hok.lt k (outOf_mem ks d.ps ho k hk)) hkn
  have HL : Hid (∀ W v, DskAt W D { d with ls := copyL d.ws d.ls ks } → HeldN W v (ks.foldl List.erase d.ps) → Calls Tryz.prog 34 #[.pointer (some ⟨D.p, 0, none⟩), v] W fun e w' => e = .returned (.tuple #[]) ∧ DskAt w' D { d with ls := copyL d.ws d.ls ks, ws := copyL d.ws d.ls ks } ∧ But D.gw W w') := Lib.hid fun W v hW hv => by
    have := dlose_any W D { d with ls := copyL d.ws d.ls ks } hW ⟨by rw [copyL_len]; exact hok.len, copyL_all hok.len.symm hok.w64 hok.l64 ks, hok.w64⟩ v _ hv (fun k hk => by rw [copyL_len, hok.len]; exact hok.lt k (fold_mem ks d.ps k hk)) (by have := fold_len ks d.ps; have := hok.plen; omega)
    simp only [crash_copy hok ks] at this
    exact this
  have HA := Lib.hid h
  clear h hok hk ho hkn c2 hv
  go_enter Tryz.func17, Tryz.ntmps17
  go_wp2_with (first
    | (go_at_call 32; refine HW.out.mono ?_; rintro e w2 ⟨v2, rfl, hh2, hn2, hb2⟩; have HH2 := Lib.hid hh2; have HN2 := Lib.hid hn2; have HB2 := Lib.hid hb2; clear hh2 hn2 hb2)
    | (go_at_call 33; refine (HK.out _ HB2.out).mono ?_; rintro e w3 ⟨rfl, hA3, hb3⟩
       have HH3 := Lib.hid (HH2.out.kept fun g hg => hb3.2.2.2.2 g (HH2.out.lt hg) (fun e => by have h1 := HN2.out g hg; have h2 := HA.out.rl.lt; omega))
       have HA3 := Lib.hid hA3; have HB3 := Lib.hid hb3; clear hA3 hb3)
    | (go_at_call 34; refine (HL.out _ _ HA3.out HH3.out).mono ?_; rintro e w4 ⟨rfl, hA4, hb4⟩
       have f2 := free_at hA4.obj (k := 2); have f4 := free_at hA4.obj (k := 4); have f5 := free_at hA4.obj (k := 5)
       have c2 := cell_at hA4.obj (k := 2) rfl; have c4 := cell_at hA4.obj (k := 4) rfl; have c5 := cell_at hA4.obj (k := 5) rfl
       have HA4 := Lib.hid hA4; have HB4 := Lib.hid hb4; clear hA4 hb4))
  go_ret
  refine ⟨rfl, .slice none 0 0, ?_, ?_, fun g hg => by cases hg⟩
  · have h5 := HA4.out.vpset (HeldN.nil_ w4) (fun _ _ => rfl)
    refine DskAt.turn h5 (((But.refl D.p _).setCell 4 _).setCell 5 _) rfl rfl rfl ?_
    rw [heap_set_at (heap_set_at h5.obj _) _]
    rfl
  · refine (((((Upd.of_below HB2.out).step (Upd.of_but HB3.out) (fun x hx => ?_)).step (Upd.of_but HB4.out) (fun x hx => ?_)).setCell (Or.inl ?_) _).setCell (Or.inl ?_) _).setCell (Or.inl ?_) _
    · rw [List.mem_singleton.1 hx]; simp [DskP.F]
    · rw [List.mem_singleton.1 hx]; simp [DskP.F]
    · simp [DskP.F]
    · simp [DskP.F]
    · simp [DskP.F]
end Go.Proofs.YtlommddabccdeaaGreatDoor

namespace Go.Proofs.YtlommddabccdeaaGreatDoor
open Go.ChangeShapes Go.WideShapes Go.ChangeAt Go.RowKit

def bFlat (bs : List (List UInt8)) : List Value := bs.flatMap fun b => b.map b8
theorem bFlat_len : ∀ (bs : List (List UInt8)), (∀ b ∈ bs, b.length = 64) → (bFlat bs).length = bs.length * 64
 | [], _ => rfl
 | b :: r, h => by
  have h1 := bFlat_len r (fun x hx => h x (List.mem_cons_of_mem _ hx))
  unfold bFlat at h1 ⊢
  rw [List.flatMap_cons, List.length_append, h1, List.length_map, h b List.mem_cons_self, List.length_cons]
  omega
theorem bFlat_at : ∀ (bs : List (List UInt8)), (∀ b ∈ bs, b.length = 64) → ∀ n (h : n < bs.length) j, j < 64 → (bFlat bs)[n * 64 + j]? = (bs[n].map b8)[j]?
 | [], _, _, h, _, _ => by cases h
 | b :: r, h64, 0, _, j, hj => by
  unfold bFlat
  rw [List.flatMap_cons, Nat.zero_mul, Nat.zero_add, List.getElem?_append_left (by rw [List.length_map, h64 b List.mem_cons_self]; exact hj)]
  rfl
 | b :: r, h64, n + 1, h, j, hj => by
  have h1 := bFlat_at r (fun x hx => h64 x (List.mem_cons_of_mem _ hx)) n (by simpa using h) j hj
  unfold bFlat at h1 ⊢
  have hl : (b.map b8).length = 64 := by rw [List.length_map, h64 b List.mem_cons_self]
  rw [List.flatMap_cons, List.getElem?_append_right (by rw [hl]; omega), hl, show (n + 1) * 64 + j - 64 = n * 64 + j by omega, h1]
  rfl
theorem BlkRow.cells {w : World} {g : Nat} {bs : List (List UInt8)} (h : BlkRow w g bs) (h64 : ∀ b ∈ bs, b.length = 64) : ∀ j u, (bFlat bs)[j]? = some u → w.cell? ⟨g, j, none⟩ = some u := by
 intro j u hu
 have hj := (List.getElem?_eq_some_iff.1 hu).1
 rw [bFlat_len bs h64] at hj
 obtain ⟨cur, h1, h2, h3⟩ := h
 have hq : j / 64 < bs.length := by omega
 have e : j / 64 * 64 + j % 64 = j := by omega
 have := bFlat_at bs h64 (j / 64) hq (j % 64) (by omega)
 rw [e, hu] at this
 have h4 := h3 (j / 64) hq (j % 64) u this.symm
 rw [e] at h4
 rw [World.cell?, h1]
 exact h4
theorem BlkRow.of_own {w : World} {B g n c : Nat} {bs : List (List UInt8)} (h : w.ownsRow B 83 64 (.slice (some ⟨g, 0, none⟩) n c) n (bFlat bs)) (hn : n = bs.length) (h64 : ∀ b ∈ bs, b.length = 64) : BlkRow w g bs := by
 subst hn
 obtain ⟨_, h2⟩ := h
 rcases h2 with ⟨h3, _⟩ | ⟨g', cap, cur, h3, _, h5, h6, h7, h8, h9⟩
 ·cases h3
 ·injection h3 with e1 _ _
  injection e1 with e1
  injection e1 with e1 _ _
  subst e1
  refine ⟨cur, h5, by rw [h8]; omega, fun m hm j u hu => ?_⟩
  have hj : j < 64 := by
   have := (List.getElem?_eq_some_iff.1 hu).1
   rw [List.length_map, h64 _ (List.getElem_mem hm)] at this
   exact this
  have e := bFlat_at bs h64 m hm j hj
  rw [← h9, List.getElem?_take_of_lt (by omega), hu] at e
  simpa using e
theorem bFlat_one (bs : List (List UInt8)) : ∀ u ∈ bFlat bs, u.oneCell' = true := fun u hu => by
 obtain ⟨b, _, h⟩ := List.mem_flatMap.1 hu
 exact one8 b u h
theorem infoBk3 : (Tryz.prog.info? 83).map (fun i => (i.zero, i.size, i.bytes)) = some (some (.agg (Array.replicate 64 (.int .u8 0))), 64, 64) := by kernel_rfl
set_option maxHeartbeats 800000 in
set_option maxRecDepth 100000 in
theorem dcloneB_any (w : World) (g c n : Nat) (bs : List (List UInt8)) (h : BlkRow w g bs) (h64 : ∀ b ∈ bs, b.length = 64) (hn : bs.length = n) (hlo : 8 ≤ n) (hhi : n ≤ 4096) :
  Calls Tryz.prog 39 #[.slice (some ⟨g, 0, none⟩) n c] w fun e w' => ∃ g' c', e = .returned (.slice (some ⟨g', 0, none⟩) n c') ∧ w.heap.size ≤ g' ∧ BlkRow w' g' bs ∧ Below w.heap.size w w' := by
 obtain ⟨i0, hi, hz0, hz1, hz2⟩ := info_parts infoBk3
 have HI := Lib.hid (And.intro hi (And.intro hz0 (And.intro hz1 hz2)))
 have q22 : ∀ (w : World) (a : Option Addr) (n c n' c' : Nat), (binOp .eql 54 (.slice a n c) (.slice none n' c')).run Tryz.prog w = .ok (.bool a.isNone) w := fun w a n c n' c' => Lib.run_eql_slice_nil w _ _ a n c n' c' Tryz.underlying54
 have HC := Lib.hid (h.cells h64)
 have HL := Lib.hid (bFlat_len bs h64)
 have HO := Lib.hid (bFlat_one bs)
 have HN := Lib.hid (And.intro hn (And.intro hlo hhi))
 have H64 := Lib.hid h64
 clear h h64 hi hz0 hz1 hz2 hn hlo hhi
 go_enter Tryz.func39, Tryz.ntmps39
 go_wp2_with (at_builtin; refine wpList_append_own _ rfl _ _ 54 rfl w.heap.size 83 i0 (.agg (Array.replicate 64 (.int .u8 0))) 64 64 Tryz.underlying54 HI.out.1 HI.out.2.1 HI.out.2.2.1 HI.out.2.2.2 (by simp [Value.cells]) (by decide) _ _ _ rfl (World.ownsRow_made w #[] 0 (Nat.le_refl _) (Nat.zero_le _) (by simp)) ⟨g, 0, none⟩ n c (bFlat bs) rfl ?qc1 ?qc2 ?qc3 ?qc4 ?qc5 ?qc6 ?_)
 case qc1 => rw [HL.out, HN.out.1]
 case qc2 =>
  intro j u hj
  rw [Addr.add_lit, Nat.zero_add]
  exact Lib.cell?_alloc_some _ (HC.out j u hj)
 case qc3 => exact HO.out
 case qc4 => rw [Nat.zero_add]; have := HN.out.2.2; unfold maxLen; omega
 case qc5 => rw [Nat.zero_add]; have := HN.out.2.2; omega
 case qc6 => simp
 intro v' w1 hown hgrow hnil
 have HB : Hid (Below w.heap.size w w1) := Lib.hid (((Below.refl _ w).alloc (Nat.le_refl _) _).grown hgrow (by simp) (by intro k hk; simp [Value.ownBlock] at hk; omega))
 have hown2 : w1.ownsRow w.heap.size 83 64 v' n (bFlat bs) := by simpa using hown
 obtain ⟨g', c', hv'⟩ : ∃ g' c', v' = .slice (some ⟨g', 0, none⟩) n c' := by
  rcases hown2.2 with ⟨_, h0⟩ | ⟨g', cap, cur, h3, _⟩
  ·have := HN.out.2.1; omega
  ·exact ⟨g', cap, h3⟩
 subst hv'
 have HO2 := Lib.hid hown2
 clear hown hown2 hgrow hnil
 go_wp2
 go_ret
 exact ⟨g', c', rfl, (HO2.out.lt g' rfl).1, BlkRow.of_own HO2.out HN.out.1.symm H64.out, HB.out⟩
theorem dmany_any (w : World) (n : Nat) (hlo : 8 ≤ n) (hhi : n ≤ 4096) :
  Calls Tryz.prog 22 #[.int .i64 n] w fun e w' => e = .returned (.bool true) ∧ w = w' := by
 have q1 : (n : Int) ≥ 8 := by omega
 have q2 : (n : Int) ≤ 4096 := by omega
 clear hlo hhi
 go_enter Tryz.func22, Tryz.ntmps22
 go_wp2
 go_ret
 exact ⟨rfl, rfl⟩
theorem ddiskOf_any (w : World) (g c n : Nat) (bs : List (List UInt8)) (h : BlkRow w g bs) (h64 : ∀ b ∈ bs, b.length = 64) (hn : bs.length = n) (hlo : 8 ≤ n) (hhi : n ≤ 4096) :
  Calls Tryz.prog 23 #[.slice (some ⟨g, 0, none⟩) n c] w fun e w' => ∃ D : DskP, e = .returned (.pointer (some ⟨D.p, 0, none⟩)) ∧ DskAt w' D ⟨bs, bs, [], 0, 0, false⟩ ∧ Below w.heap.size w w' ∧ D.gl = g ∧ w.heap.size ≤ D.p ∧ w.heap.size ≤ D.gw ∧ D.vp = .slice none 0 0 := by
 have HC := Lib.hid (dcloneB_any w g c n bs h h64 hn hlo hhi)
 have HH := Lib.hid h
 have HN := Lib.hid hn
 clear h h64 hn hlo hhi
 go_enter Tryz.func23, Tryz.ntmps23
 go_wp2_with (go_at_call 39; refine HC.out.mono ?_; rintro e w2 ⟨g2, c2, rfl, hg2, hr2, hb2⟩; have HR2 := Lib.hid (And.intro hg2 (And.intro hr2 hb2)); clear hg2 hr2 hb2)
 go_ret
 have hA : Below w2.heap.size w2 (w2.alloc (.cells #[.slice (some ⟨g, 0, none⟩) n c, .slice (some ⟨g2, 0, none⟩) n c2, .slice none 0 0, .int .i64 0, .int .i64 0, .bool false] 71)) := (Below.refl _ w2).alloc (Nat.le_refl _) _
 refine ⟨⟨w2.heap.size, g, c, g2, c2, .slice none 0 0⟩, rfl, ⟨?_, ?_, ?_, HeldN.nil_ _, ?_⟩, HR2.out.2.2.trans (hA.mono HR2.out.2.2.size), rfl, HR2.out.2.2.size, HR2.out.1, rfl⟩
 ·rw [show (⟨bs, bs, [], 0, 0, false⟩ : DskV).ls.length = n from HN.out]
  exact heap_alloc_new w2 _
 ·exact (HH.out.kept (HR2.out.2.2.block g HH.out.lt)).kept (hA.block g (Nat.lt_of_lt_of_le HH.out.lt HR2.out.2.2.size))
 ·exact HR2.out.2.1.kept (hA.block g2 HR2.out.2.1.lt)
 ·have := HH.out.lt
  have := HR2.out.1
  show g ≠ g2
  omega
theorem rep_get (v : Value) (k : Nat) : (Array.replicate 64 v)[k % (Array.replicate 64 v).size]! = v := by
 have h : k % (Array.replicate 64 v).size < (Array.replicate 64 v).size := Nat.mod_lt _ (by rw [Array.size_replicate]; decide)
 rw [getElem!_pos (Array.replicate 64 v) _ h, Array.getElem_replicate]
theorem madeB (w : World) (n : Nat) : BlkRow (w.alloc (Obj.cells (madeCells (Value.agg (Array.replicate 64 (.int .u8 0))).cells (n * 64)) 83)) w.heap.size (newL n) := by
 refine ⟨_, heap_alloc_new w _, by rw [size_madeCells]; simp [newL]; omega, fun m hm j u hu => ?_⟩
 have hm2 : m < n := by simpa [newL] using hm
 have e : (newL n)[m] = List.replicate 64 0 := List.getElem_replicate ..
 rw [e, List.map_replicate, List.getElem?_replicate] at hu
 by_cases hj : j < 64
 ·rw [if_pos hj] at hu
  unfold madeCells
  rw [Array.getElem?_map, Array.getElem?_eq_getElem (by rw [Array.size_range]; omega)]
  show some ((Array.replicate 64 (Value.int .u8 0))[_ % (Array.replicate 64 (Value.int .u8 0)).size]!) = some u
  rw [rep_get, ← hu]
  rfl
 ·rw [if_neg hj] at hu; cases hu
theorem run_makeB (w : World) (n : Nat) (hn : n ≤ 4096) :
  (Instr.makeSlice 54 (.int .i64 (n : Int)) (.int .i64 (n : Int))).run Tryz.prog w = .ok (.slice (some ⟨w.heap.size, 0, none⟩) n n) (w.alloc (Obj.cells (madeCells (Value.agg (Array.replicate 64 (.int .u8 0))).cells (n * 64)) 83)) := by
 obtain ⟨i0, hi, hz0, hz1, hz2⟩ := info_parts infoBk3
 have := run_make (P := Tryz.prog) w 54 83 i0 _ Tryz.underlying54 hi hz0 .i64 .i64 (n : Int) (n : Int) (by omega) (by omega) (by rw [hz2]; omega) (by omega)
 rw [hz1, Int.toNat_natCast] at this
 exact this
theorem dnew_any (w : World) (n : Nat) (hlo : 8 ≤ n) (hhi : n ≤ 4096) :
  Calls Tryz.prog 6 #[.int .i64 n] w fun e w' => ∃ D : DskP, e = .returned (.tuple #[.pointer (some ⟨D.p, 0, none⟩), .int .i64 0]) ∧ DskAt w' D (DskV.new n) ∧ Below w.heap.size w w' ∧ (∀ k ∈ D.F, w.heap.size ≤ k) := by
 have hmk := fun W => run_makeB W n hhi
 have HM := Lib.hid (dmany_any w n hlo hhi)
 have h64 : ∀ b ∈ newL n, b.length = 64 := fun b hb => by rw [List.eq_of_mem_replicate hb, List.length_replicate]
 have hb : Below w.heap.size w (w.alloc (Obj.cells (madeCells (Value.agg (Array.replicate 64 (.int .u8 0))).cells (n * 64)) 83)) := (Below.refl _ w).alloc (Nat.le_refl _) _
 have HD := Lib.hid (ddiskOf_any _ w.heap.size n n (newL n) (madeB w n) h64 (by simp [newL]) hlo hhi)
 have HB := Lib.hid hb
 clear hlo hhi h64 hb
 generalize madeCells (Value.agg (Array.replicate 64 (.int .u8 0))).cells (n * 64) = MC at *
 go_enter Tryz.func6, Tryz.ntmps6
 go_wp2_with (first
  | (go_at_call 22; refine HM.out.mono ?_; rintro e w2 ⟨rfl, rfl⟩)
  | (go_at_call 23; refine HD.out.mono ?_; rintro e w2 ⟨D, rfl, hd⟩; have HDD := Lib.hid hd; clear hd))
 go_ret2
 obtain ⟨h1, h2, h3, h4, h5, h6⟩ := HDD.out
 refine ⟨D, rfl, h1, HB.out.trans (h2.mono HB.out.size), fun k hk => ?_⟩
 have hs := HB.out.size
 rw [DskP.F, h6] at hk
 simp [Value.ownBlock] at hk
 rcases hk with rfl | rfl | rfl
 ·omega
 ·omega
 ·omega
end Go.Proofs.YtlommddabccdeaaGreatDoor
