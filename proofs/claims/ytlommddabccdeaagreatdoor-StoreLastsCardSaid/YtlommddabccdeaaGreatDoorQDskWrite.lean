/-
  DskActs, DskWrite.
-/
import Derived.Test.YtlommddabccdeaaGreatDoorQDskRow
namespace Go.Proofs.YtlommddabccdeaaGreatDoor
open Go.ChangeShapes Go.WideShapes Go.ChangeAt Go.RowKit

theorem BlkRow.drew {w : World} {g : Nat} {bs : List (List UInt8)} (h : BlkRow w g bs) : BlkRow w.drew g bs := h.kept rfl
theorem DskAt.drew {w : World} {D : DskP} {d : DskV} (h : DskAt w D d) : DskAt w.drew D d := h.kept fun _ _ => rfl
theorem DskAt.rowL {w w' : World} {D : DskP} {d : DskV} (h : DskAt w D d) {ls' : List (List UInt8)} (hb : But D.gl w w') (hr : BlkRow w' D.gl ls') (hl : ls'.length = d.ls.length) : DskAt w' D { d with ls := ls' } := by
 obtain ⟨cl, e1, _⟩ := h.rl
 have n1 : D.gl ≠ D.p := apart_of e1 h.obj (by decide)
 refine ⟨?_, hr, h.rw.kept (hb.2.2.2.2 _ h.rw.lt (fun e => h.ne e.symm)), h.rp.kept fun g hg => hb.2.2.2.2 _ (h.rp.lt hg) ?_, h.ne⟩
 ·rw [hb.2.2.2.2 _ (lt_of_heap h.obj) (fun e => n1 e.symm), h.obj]
  simp only [hl]
 ·rcases h.rp.shape with ⟨e, _⟩ | ⟨g', cap, cur, e, h5, _⟩
  ·rw [e] at hg; cases hg
  ·rw [e] at hg
   injection hg with hg
   subst hg
   exact apart_of h5 e1 (by decide)
theorem DskAt.rowW {w w' : World} {D : DskP} {d : DskV} (h : DskAt w D d) {ws' : List (List UInt8)} (hb : But D.gw w w') (hr : BlkRow w' D.gw ws') (hl : ws'.length = d.ws.length) : DskAt w' D { d with ws := ws' } := by
 obtain ⟨cl, e1, _⟩ := h.rw
 have n1 : D.gw ≠ D.p := apart_of e1 h.obj (by decide)
 refine ⟨?_, h.rl.kept (hb.2.2.2.2 _ h.rl.lt h.ne), hr, h.rp.kept fun g hg => hb.2.2.2.2 _ (h.rp.lt hg) ?_, h.ne⟩
 ·rw [hb.2.2.2.2 _ (lt_of_heap h.obj) (fun e => n1 e.symm), h.obj]
  simp only [hl]
 ·rcases h.rp.shape with ⟨e, _⟩ | ⟨g', cap, cur, e, h5, _⟩
  ·rw [e] at hg; cases hg
  ·rw [e] at hg
   injection hg with hg
   subst hg
   exact apart_of h5 e1 (by decide)
theorem held_apart {w : World} {kv : Value} {ks : List Nat} {g : Nat} {bs : List (List UInt8)} (hk : HeldN w kv ks) (h : BlkRow w g bs) : kv.ownBlock ≠ some g := by
 intro hg
 obtain ⟨cl, e1, _⟩ := h
 rcases hk.shape with ⟨e, _⟩ | ⟨g', cap, cur, e, h5, _⟩
 ·rw [e] at hg; cases hg
 ·rw [e] at hg
  injection hg with hg
  subst hg
  exact apart_of h5 e1 (by decide) rfl
theorem held_apart_obj {w : World} {kv : Value} {ks : List Nat} {g : Nat} {cs : Array Value} {t : TypeId} {f : Nat × Nat} (hk : HeldN w kv ks) (h : w.heap[g]? = some (.cells cs t f)) (ht : 3 ≠ t) : kv.ownBlock ≠ some g := by
 intro hg
 rcases hk.shape with ⟨e, _⟩ | ⟨g', cap, cur, e, h5, _⟩
 ·rw [e] at hg; cases hg
 ·rw [e] at hg
  injection hg with hg
  subst hg
  exact apart_of h5 h ht rfl
structure DskW (d : DskV) : Prop where
 len : d.ls.length = d.ws.length
 l64 : ∀ b ∈ d.ls, b.length = 64
 w64 : ∀ b ∈ d.ws, b.length = 64
theorem DskOk.w {d : DskV} (h : DskOk d) : DskW d := ⟨h.len, h.l64, h.w64⟩
theorem copyL_take (src dst : List (List UInt8)) (ks : List Nat) (t : Nat) (h : t < ks.length) : copyL src dst (ks.take (t + 1)) = (copyL src dst (ks.take t)).set ks[t] (src.getD ks[t] []) := by
 rw [List.take_succ_eq_append_getElem h, copyL_snoc]
set_option maxHeartbeats 800000 in
set_option maxRecDepth 100000 in
theorem dkeep_any (w : World) (D : DskP) (d : DskV) (h : DskAt w D d) (hok : DskW d) (kv : Value) (ks : List Nat) (hk : HeldN w kv ks) (hkl : ∀ k ∈ ks, k < d.ws.length) (hkn : ks.length ≤ 5000) :
  Calls Tryz.prog 33 #[.pointer (some ⟨D.p, 0, none⟩), kv] w fun e w' => e = .returned (.tuple #[]) ∧ DskAt w' D { d with ls := copyL d.ws d.ls ks } ∧ But D.gl w w' := by
 have HA := Lib.hid h
 have HOK := Lib.hid hok
 have HK := Lib.hid hk
 have HL := Lib.hid hkl
 obtain ⟨ka, kc, rfl⟩ : ∃ ka kc, kv = .slice ka ks.length kc := by
  rcases hk.shape with ⟨rfl, rfl⟩ | ⟨g, c, cur, rfl, h5, _⟩
  ·exact ⟨_, _, rfl⟩
  ·exact ⟨_, _, rfl⟩
 obtain ⟨n, hnl⟩ : ∃ n, ks.length = n := ⟨_, rfl⟩
 have HNL := Lib.hid hnl
 have HX : Hid (∀ g, (Value.slice ka ks.length kc).ownBlock = some g → g ≠ D.gl) := Lib.hid fun g hg e => held_apart hk h.rl (by rw [← e]; exact hg)
 have HPL : Hid (D.p ≠ D.gl) := Lib.hid fun e => by
  obtain ⟨_, e1, _⟩ := h.rl
  exact apart_of e1 h.obj (by decide) e.symm
 have HL64 : Hid (∀ t, ∀ b ∈ copyL d.ws d.ls (ks.take t), b.length = 64) := Lib.hid fun t => copyL_all hok.len.symm hok.w64 hok.l64 _
 rw [hnl] at hkn ⊢
 clear h hk hkl hok hnl
 go_enter Tryz.func33, Tryz.ntmps33
 go_wp2
 go_loopw [5, 8] (fun _ i wr => ∃ t : Nat, i = .int .i64 t ∧ t ≤ n ∧ Hid (DskAt wr D { d with ls := copyL d.ws d.ls (ks.take t) } ∧ But D.gl w wr)) (fun _ i _ => n - (intOf i).toNat)
 case atStart => exact ⟨0, rfl, by omega, Lib.hid ⟨by rw [List.take_zero]; exact HA.out, But.refl _ _⟩⟩
 case round =>
  obtain ⟨t, rfl, ht, HR⟩ := hrel
  by_cases hlt : t < n
  ·have hk2 : t < ks.length := by rw [HNL.out]; exact hlt
   have q1 : (0 : Int) ≤ t := by omega
   have q2 : (t : Int) < n := by omega
   obtain ⟨b, hb⟩ : ∃ b, ka = some (⟨b, 0, none⟩ : Addr) := by
    rcases HK.out.shape with ⟨e, e2⟩ | ⟨g, c, cur, e, _⟩
    ·rw [e2] at hk2; cases hk2
    ·injection e with e _ _; exact ⟨g, e⟩
   subst hb
   have hlb : b < w.heap.size := HK.out.lt rfl
   have hbl : b ≠ D.gl := HX.out b rfl
   have hc := (HR.out.2.cell (p := ⟨b, t, none⟩) hlb hbl).trans (HK.out.cell t hk2)
   have hx := HL.out ks[t] (List.getElem_mem hk2)
   have hct := copyL_take d.ws d.ls ks t hk2
   unfold nI at hc
   obtain ⟨xb, hxb⟩ : ∃ xb, d.ws[ks[t]]? = some xb := ⟨_, List.getElem?_eq_getElem hx⟩
   have hx64 : xb.length = 64 := HOK.out.w64 xb (List.mem_of_getElem? hxb)
   have hgd : d.ws.getD ks[t] [] = xb := by simp [List.getD, hxb]
   rw [hgd] at hct
   generalize ks[t] = x at *
   have hrg := HR.out.1.rw.range hxb
   have hxl : x < (copyL d.ws d.ls (ks.take t)).length := by rw [copyL_len, HOK.out.len]; exact hx
   have hth := HR.out.1.rl.there hxl
   obtain ⟨hr1, hb1, hs1⟩ := HR.out.1.rl.drew.store hxl (HL64.out t) hx64
   have c0 := cell_at HR.out.1.obj (k := 0) rfl
   have c1 := cell_at HR.out.1.obj (k := 1) rfl
   have npl : D.p ≠ D.gl := HPL.out
   have HS2 : Hid ((wr.drew.setCells D.gl (x * 64) (xb.map b8)).cell? ⟨D.p, 0, none⟩ = some (.slice (some ⟨D.gl, 0, none⟩) (copyL d.ws d.ls (ks.take t)).length D.cl) ∧ (wr.drew.setCells D.gl (x * 64) (xb.map b8)).cell? ⟨D.p, 1, none⟩ = some (.slice (some ⟨D.gw, 0, none⟩) d.ws.length D.cw) ∧ (wr.drew.setCells D.gl (x * 64) (xb.map b8)).rangeAt D.gw (x * 64) (xb.map b8) ∧ (wr.drew.setCells D.gl (x * 64) (xb.map b8)).there D.gl (x * 64) 64) := Lib.hid
    ⟨(hb1.cell (p := ⟨D.p, 0, none⟩) (lt_of_heap HR.out.1.obj) npl).trans c0, (hb1.cell (p := ⟨D.p, 1, none⟩) (lt_of_heap HR.out.1.obj) npl).trans c1, World.rangeAt_setCells_apart (by simpa using hrg) _ _ _ (Or.inl (fun e => HA.out.ne e.symm)), World.there_setCells (by simpa using hth) _ _ _⟩
   have HE : Hid (DskAt (wr.drew.setCells D.gl (x * 64) (xb.map b8)) D { d with ls := copyL d.ws d.ls (ks.take (t + 1)) } ∧ But D.gl w (wr.drew.setCells D.gl (x * 64) (xb.map b8))) := Lib.hid ⟨by
    rw [hct]
    exact HR.out.1.drew.rowL hb1 hr1 (by simp), ⟨hb1.1.trans HR.out.2.1, hb1.2.1.trans HR.out.2.2.1, hb1.2.2.1.trans HR.out.2.2.2.1, by rw [hs1]; exact HR.out.2.2.2.2.1, fun k hk hne => (hb1.2.2.2.2 k (Nat.lt_of_lt_of_le hk HR.out.2.2.2.2.1) hne).trans (HR.out.2.2.2.2.2 k hk hne)⟩⟩
   have q3 : (x : Int) < d.ws.length := by omega
   have q4 : (x : Int) < (copyL d.ws d.ls (ks.take t)).length := by omega
   have q5 : (0 : Int) ≤ x := by omega
   have q6 : (x : Int).toNat = x := by omega
   generalize (copyL d.ws d.ls (ks.take t)).length = L1 at *
   generalize d.ws.length = L2 at *
   have hu := Tryz.underlying83
   have hcl : (xb.map b8).length = 64 := by rw [List.length_map, hx64]
   have hi64 : (Tryz.prog.info? 83).map (·.size) = some (xb.map b8).length := by rw [hcl]; exact sizeBk
   have hone := one8 xb
   generalize xb.map b8 = XC at *
   clear npl hct hxb hgd hr1 hb1 hs1 hxl hx hlb hbl hk2
   go_wp2
   go_region_held3 (fun W => W.cell? ⟨D.p, 0, none⟩ = some (.slice (some ⟨D.gl, 0, none⟩) L1 D.cl) ∧ W.cell? ⟨D.p, 1, none⟩ = some (.slice (some ⟨D.gw, 0, none⟩) L2 D.cw) ∧ W.rangeAt D.gw (x * 64) XC ∧ W.there D.gl (x * 64) 64) (first | exact ⟨c0, c1, hrg, hth⟩ | exact HS2.out) (fail)
   go_wp2
   go_roundw
   case rel => exact ⟨t + 1, by go_num, by omega, HE⟩
   case measure => simp [intOf]; omega
  ·have q2 : ¬ (t : Int) < n := by omega
   go_wp2
   go_end0
   have := HR.out
   rw [List.take_of_length_le (by rw [HNL.out]; omega)] at this
   exact ⟨rfl, this⟩
set_option maxHeartbeats 800000 in
set_option maxRecDepth 100000 in
theorem dlose_any (w : World) (D : DskP) (d : DskV) (h : DskAt w D d) (hok : DskW d) (kv : Value) (ks : List Nat) (hk : HeldN w kv ks) (hkl : ∀ k ∈ ks, k < d.ls.length) (hkn : ks.length ≤ 5000) :
  Calls Tryz.prog 34 #[.pointer (some ⟨D.p, 0, none⟩), kv] w fun e w' => e = .returned (.tuple #[]) ∧ DskAt w' D { d with ws := copyL d.ls d.ws ks } ∧ But D.gw w w' := by
 have HA := Lib.hid h
 have HOK := Lib.hid hok
 have HK := Lib.hid hk
 have HL := Lib.hid hkl
 obtain ⟨ka, kc, rfl⟩ : ∃ ka kc, kv = .slice ka ks.length kc := by
  rcases hk.shape with ⟨rfl, rfl⟩ | ⟨g, c, cur, rfl, h5, _⟩
  ·exact ⟨_, _, rfl⟩
  ·exact ⟨_, _, rfl⟩
 obtain ⟨n, hnl⟩ : ∃ n, ks.length = n := ⟨_, rfl⟩
 have HNL := Lib.hid hnl
 have HX : Hid (∀ g, (Value.slice ka ks.length kc).ownBlock = some g → g ≠ D.gw) := Lib.hid fun g hg e => held_apart hk h.rw (by rw [← e]; exact hg)
 have HPL : Hid (D.p ≠ D.gw) := Lib.hid fun e => by
  obtain ⟨_, e1, _⟩ := h.rw
  exact apart_of e1 h.obj (by decide) e.symm
 have HL64 : Hid (∀ t, ∀ b ∈ copyL d.ls d.ws (ks.take t), b.length = 64) := Lib.hid fun t => copyL_all hok.len hok.l64 hok.w64 _
 rw [hnl] at hkn ⊢
 clear h hk hkl hok hnl
 go_enter Tryz.func34, Tryz.ntmps34
 go_wp2
 go_loopw [5, 8] (fun _ i wr => ∃ t : Nat, i = .int .i64 t ∧ t ≤ n ∧ Hid (DskAt wr D { d with ws := copyL d.ls d.ws (ks.take t) } ∧ But D.gw w wr)) (fun _ i _ => n - (intOf i).toNat)
 case atStart => exact ⟨0, rfl, by omega, Lib.hid ⟨by rw [List.take_zero]; exact HA.out, But.refl _ _⟩⟩
 case round =>
  obtain ⟨t, rfl, ht, HR⟩ := hrel
  by_cases hlt : t < n
  ·have hk2 : t < ks.length := by rw [HNL.out]; exact hlt
   have q1 : (0 : Int) ≤ t := by omega
   have q2 : (t : Int) < n := by omega
   obtain ⟨b, hb⟩ : ∃ b, ka = some (⟨b, 0, none⟩ : Addr) := by
    rcases HK.out.shape with ⟨e, e2⟩ | ⟨g, c, cur, e, _⟩
    ·rw [e2] at hk2; cases hk2
    ·injection e with e _ _; exact ⟨g, e⟩
   subst hb
   have hlb : b < w.heap.size := HK.out.lt rfl
   have hbl : b ≠ D.gw := HX.out b rfl
   have hc := (HR.out.2.cell (p := ⟨b, t, none⟩) hlb hbl).trans (HK.out.cell t hk2)
   have hx := HL.out ks[t] (List.getElem_mem hk2)
   have hct := copyL_take d.ls d.ws ks t hk2
   unfold nI at hc
   obtain ⟨xb, hxb⟩ : ∃ xb, d.ls[ks[t]]? = some xb := ⟨_, List.getElem?_eq_getElem hx⟩
   have hx64 : xb.length = 64 := HOK.out.l64 xb (List.mem_of_getElem? hxb)
   have hgd : d.ls.getD ks[t] [] = xb := by simp [List.getD, hxb]
   rw [hgd] at hct
   generalize ks[t] = x at *
   have hrg := HR.out.1.rl.range hxb
   have hxl : x < (copyL d.ls d.ws (ks.take t)).length := by rw [copyL_len, ← HOK.out.len]; exact hx
   have hth := HR.out.1.rw.there hxl
   obtain ⟨hr1, hb1, hs1⟩ := HR.out.1.rw.drew.store hxl (HL64.out t) hx64
   have c0 := cell_at HR.out.1.obj (k := 1) rfl
   have c1 := cell_at HR.out.1.obj (k := 0) rfl
   have npl : D.p ≠ D.gw := HPL.out
   have HS2 : Hid ((wr.drew.setCells D.gw (x * 64) (xb.map b8)).cell? ⟨D.p, 1, none⟩ = some (.slice (some ⟨D.gw, 0, none⟩) (copyL d.ls d.ws (ks.take t)).length D.cw) ∧ (wr.drew.setCells D.gw (x * 64) (xb.map b8)).cell? ⟨D.p, 0, none⟩ = some (.slice (some ⟨D.gl, 0, none⟩) d.ls.length D.cl) ∧ (wr.drew.setCells D.gw (x * 64) (xb.map b8)).rangeAt D.gl (x * 64) (xb.map b8) ∧ (wr.drew.setCells D.gw (x * 64) (xb.map b8)).there D.gw (x * 64) 64) := Lib.hid
    ⟨(hb1.cell (p := ⟨D.p, 1, none⟩) (lt_of_heap HR.out.1.obj) npl).trans c0, (hb1.cell (p := ⟨D.p, 0, none⟩) (lt_of_heap HR.out.1.obj) npl).trans c1, World.rangeAt_setCells_apart (by simpa using hrg) _ _ _ (Or.inl HA.out.ne), World.there_setCells (by simpa using hth) _ _ _⟩
   have HE : Hid (DskAt (wr.drew.setCells D.gw (x * 64) (xb.map b8)) D { d with ws := copyL d.ls d.ws (ks.take (t + 1)) } ∧ But D.gw w (wr.drew.setCells D.gw (x * 64) (xb.map b8))) := Lib.hid ⟨by
    rw [hct]
    exact HR.out.1.drew.rowW hb1 hr1 (by simp), ⟨hb1.1.trans HR.out.2.1, hb1.2.1.trans HR.out.2.2.1, hb1.2.2.1.trans HR.out.2.2.2.1, by rw [hs1]; exact HR.out.2.2.2.2.1, fun k hk hne => (hb1.2.2.2.2 k (Nat.lt_of_lt_of_le hk HR.out.2.2.2.2.1) hne).trans (HR.out.2.2.2.2.2 k hk hne)⟩⟩
   have q3 : (x : Int) < d.ls.length := by omega
   have q4 : (x : Int) < (copyL d.ls d.ws (ks.take t)).length := by omega
   have q5 : (0 : Int) ≤ x := by omega
   have q6 : (x : Int).toNat = x := by omega
   generalize (copyL d.ls d.ws (ks.take t)).length = L1 at *
   generalize d.ls.length = L2 at *
   have hu := Tryz.underlying83
   have hcl : (xb.map b8).length = 64 := by rw [List.length_map, hx64]
   have hi64 : (Tryz.prog.info? 83).map (·.size) = some (xb.map b8).length := by rw [hcl]; exact sizeBk
   have hone := one8 xb
   generalize xb.map b8 = XC at *
   clear npl hct hxb hgd hr1 hb1 hs1 hxl hx hlb hbl hk2
   go_wp2
   go_region_held3 (fun W => W.cell? ⟨D.p, 1, none⟩ = some (.slice (some ⟨D.gw, 0, none⟩) L1 D.cw) ∧ W.cell? ⟨D.p, 0, none⟩ = some (.slice (some ⟨D.gl, 0, none⟩) L2 D.cl) ∧ W.rangeAt D.gl (x * 64) XC ∧ W.there D.gw (x * 64) 64) (first | exact ⟨c0, c1, hrg, hth⟩ | exact HS2.out) (fail)
   go_wp2
   go_roundw
   case rel => exact ⟨t + 1, by go_num, by omega, HE⟩
   case measure => simp [intOf]; omega
  ·have q2 : ¬ (t : Int) < n := by omega
   go_wp2
   go_end0
   have := HR.out
   rw [List.take_of_length_le (by rw [HNL.out]; omega)] at this
   exact ⟨rfl, this⟩
end Go.Proofs.YtlommddabccdeaaGreatDoor

namespace Go.Proofs.YtlommddabccdeaaGreatDoor
open Go.ChangeShapes Go.WideShapes Go.ChangeAt Go.RowKit

theorem HeldN.shape' {w : World} {v : Value} {l : List Nat} (h : HeldN w v l) : ∃ a n c, v = .slice a n c := by
  rcases h.shape with ⟨rfl, _⟩ | ⟨g, c, cur, rfl, _⟩
  · exact ⟨_, _, _, rfl⟩
  · exact ⟨_, _, _, rfl⟩
theorem appendN {ops : Array Oper} {rest : List Oper} {o : Oper} {a : Act} {Q : Exit → Act → World → Prop} (hgd : o.guard = none) (s x : Operand)
    (ho : o.op = .call { callee := .builtin .append, args := #[s, x], argTypes := #[23, 23] })
    {w : World} {v : Value} {l : List Nat} (hown : HeldN w v l) (hs : a.eval s = v) {ad : Addr} {c k : Nat} (hx : a.eval x = .slice (some ad) 1 c) (hc : w.cell? ad = some (nI k)) (hb : l.length ≤ 1000000)
    (h : ∀ v' w', HeldN w' v' (l ++ [k]) → w.grownBy w' v.ownBlock → (∀ g, v'.ownBlock = some g → v.ownBlock = some g ∨ w.heap.size ≤ g) → wpList Tryz.prog ops Q rest (a.put o.dst v') w') : wpList Tryz.prog ops Q (o :: rest) a w := by
  refine wpList_plain hgd fun K hK => ?_
  obtain ⟨v', w', hr, h2, h3, h4⟩ := run_appendN_loc hown o.type ad c k hc hb
  unfold Oper.wp execOp
  simp only [ho, resolve, invoke, builtin, Sem.run_bind, Sem.run_pure, Result.andThen_ok, List.map_toArray, List.map_cons, List.map_nil, hs, hx, hr]
  exact hK _ _ (h v' w' h2 h3 h4)
theorem HeldN.alloc {w : World} {v : Value} {l : List Nat} (h : HeldN w v l) (o : Obj) : HeldN (w.alloc o) v l := h.kept fun _ hg => heap_alloc_old w o (h.lt hg)
theorem DskAt.vpset {w w' : World} {D : DskP} {d : DskV} (h : DskAt w D d) {v' : Value} {ps' : List Nat} (hv : HeldN w' v' ps') (hk : ∀ k, k = D.p ∨ k = D.gl ∨ k = D.gw → w'.heap[k]? = w.heap[k]?) :
    DskAt (w'.setCell ⟨D.p, 2, none⟩ v') { D with vp := v' } { d with ps := ps' } := by
  have ho : w'.heap[D.p]? = _ := (hk D.p (Or.inl rfl)).trans h.obj
  obtain ⟨cl, e1, _⟩ := h.rl
  obtain ⟨cw, e2, _⟩ := h.rw
  have n1 : D.gl ≠ D.p := apart_of e1 h.obj (by decide)
  have n2 : D.gw ≠ D.p := apart_of e2 h.obj (by decide)
  refine ⟨?_, h.rl.kept ?_, h.rw.kept ?_, hv.kept fun g hg => ?_, h.ne⟩
  · rw [heap_set_at ho]; rfl
  · rw [Below.heap_setCell _ _ _ _ n1]; exact hk _ (Or.inr (Or.inl rfl))
  · rw [Below.heap_setCell _ _ _ _ n2]; exact hk _ (Or.inr (Or.inr rfl))
  · exact Below.heap_setCell _ _ _ _ (fun e => held_apart_obj hv ho (by decide) (by rw [hg, e]))
theorem Upd.step {F G : List Nat} {a b c : World} (h : Upd F a b) (k : Upd G b c) (hG : ∀ x ∈ G, x ∈ F) : Upd F a c := h.trans k fun x hx => Or.inl (hG x hx)
theorem nodup_len : ∀ (B : Nat) (ps : List Nat), ps.Nodup → (∀ n ∈ ps, n < B) → ps.length ≤ B
  | 0, ps, _, h => by
    match ps with
    | [] => exact Nat.le_refl _
    | a :: _ => exact absurd (h a List.mem_cons_self) (Nat.not_lt_zero _)
  | B + 1, ps, hn, h => by
    have h2 := nodup_len B (ps.erase B) (hn.erase B) (fun n hm => by
      have h3 := h n (List.mem_of_mem_erase hm)
      have h4 : n ≠ B := fun e => by subst e; exact hn.not_mem_erase hm
      omega)
    have h5 : ps.length ≤ (ps.erase B).length + 1 := by
      rw [List.length_erase]
      split <;> omega
    omega
theorem DskOk.plen {d : DskV} (h : DskOk d) : d.ps.length ≤ 4096 := Nat.le_trans (nodup_len _ _ h.nd h.lt) h.hi
theorem vp_apart {w : World} {D : DskP} {d : DskV} (h : DskAt w D d) : ∀ k, k = D.p ∨ k = D.gl ∨ k = D.gw → D.vp.ownBlock ≠ some k := by
  intro k hk
  rcases hk with rfl | rfl | rfl
  · exact held_apart_obj h.rp h.obj (by decide)
  · exact held_apart h.rp h.rl
  · exact held_apart h.rp h.rw
theorem write_end {W3 w4 w5 : World} {D : DskP} {d3 : DskV} (h3 : DskAt W3 D d3) {v4 : Value} {o : Obj} (hh : v4.ownBlock = D.vp.ownBlock) (hu4 : Upd D.vp.ownBlock.toList W3 w4) (hg5 : (w4.alloc o).grownBy w5 v4.ownBlock) :
    (∀ k, k = D.p ∨ k = D.gl ∨ k = D.gw → w5.heap[k]? = W3.heap[k]?) ∧ Upd D.vp.ownBlock.toList W3 w5 := by
  have hu5 : Upd D.vp.ownBlock.toList W3 w5 := by
    refine (hu4.then_below ((Below.refl _ w4).alloc (Nat.le_refl _) o)).grown hg5 (fun k hk => Or.inl ?_)
    rw [hh] at hk
    rw [hk]; simp
  refine ⟨fun k hk => hu5.block k ?_ ?_, hu5⟩
  · rcases hk with rfl | rfl | rfl
    · exact h3.lt _ (by simp [DskP.F])
    · exact h3.lt _ (by simp [DskP.F])
    · exact h3.lt _ (by simp [DskP.F])
  · intro hx
    exact vp_apart h3 k hk (by simpa using hx)
def DStep (w : World) (D : DskP) (d' : DskV) (w' : World) : Prop := ∃ v', DskAt w' { D with vp := v' } d' ∧ Upd D.F w w' ∧ ∀ g, v'.ownBlock = some g → D.vp.ownBlock = some g ∨ w.heap.size ≤ g
set_option maxHeartbeats 1600000 in
set_option maxRecDepth 100000 in
theorem dwrite_any (w : World) (D : DskP) (d : DskV) (h : DskAt w D d) (hok : DskOk d) (hd : d.dead = false) (n : Nat) (hn : n < d.ws.length) (s : ByteArray) (hs : s.size = 64) :
    Calls Tryz.prog 62 #[.pointer (some ⟨D.p, 0, none⟩), .int .i64 n, .string s] w fun e w' => e = .returned (.int .i64 d.says) ∧ DStep w D (d.wrote n s.data.toList) w' := by
  obtain ⟨b, hb⟩ : ∃ b, s.data.toList = b := ⟨_, rfl⟩
  have h64 : b.length = 64 := by rw [← hb]; simpa using hs
  have HBO := Lib.hid (dblockOf_any w s hs)
  rw [hb] at HBO ⊢
  unfold bkV at HBO
  obtain ⟨L, hL⟩ : ∃ L, b.map b8 = L := ⟨_, rfl⟩
  have HL := Lib.hid hL
  have HL64 : Hid (L.length = 64) := Lib.hid (by rw [← hL, List.length_map, h64])
  have HL1 : Hid (∀ u ∈ L, u.oneCell' = true) := Lib.hid (hL ▸ one8 b)
  have HST : Hid (∀ W : World, (storeVar 83 ⟨W.heap.size, 0, none⟩ (.agg L.toArray)).run Tryz.prog (W.alloc (.cells zBk 83)) = .ok () (W.alloc (.cells L.toArray 83))) := Lib.hid fun W =>
    run_storeVar_new W _ _ _ (by rw [sizeBk]; simp [HL64.out]) (by rw [zBk_size]; simp [HL64.out]) (all_oneCell_toArray HL1.out)
  rw [hL] at HBO
  have HA := Lib.hid h
  have HOK := Lib.hid hok
  have HD := Lib.hid hd
  have HN := Lib.hid hn
  have HZ : Hid (∀ W, (zeroValue 83).run Tryz.prog W = .ok (.agg zBk) W) := Lib.hid zeroBk'
  have HSA : Hid (∀ W : World, Below w.heap.size w W → Below w.heap.size w (W.alloc (.cells L.toArray 83)) ∧ DskAt (W.alloc (.cells L.toArray 83)) D d) := Lib.hid fun W hW =>
    have hb := hW.trans (((Below.refl _ W).alloc (Nat.le_refl _) (.cells L.toArray 83)).mono hW.size)
    ⟨hb, h.below hb⟩
  have HH : Hid (∀ W, DskAt W D d → Calls Tryz.prog 80 #[.pointer (some ⟨D.p, 0, none⟩), .int .i64 n] W fun e w' => e = .returned (.bool true) ∧ W = w') := Lib.hid fun W hW => by
    have := dhas_any W D d hW n
    rw [decide_eq_true (by omega : (0 : Int) ≤ n), decide_eq_true (by omega : (n : Int) < d.ws.length)] at this
    exact this
  have H64 := Lib.hid h64
  clear h hok hd hn hs hb hL h64
  go_enter Tryz.func62, Tryz.ntmps62
  have hz := HZ.out
  go_wp2_with (first
    | (go_at_call 97; refine HBO.out.mono ?_; rintro e w1 ⟨rfl, hb1⟩; have HB1 := Lib.hid hb1; have HA2 := HSA.out w1 hb1; have c5 := cell_at HA2.2.obj (k := 5) rfl; have c1 := cell_at HA2.2.obj (k := 1) rfl; have c2 := cell_at HA2.2.obj (k := 2) rfl; rw [HD.out] at c5; have HA2 := Lib.hid HA2; clear hb1)
    | (refine wpList_store_at rfl 83 _ _ rfl w1.heap.size 0 rfl _ rfl (HST.out w1) ?_)
    | (go_at_call 80; refine (HH.out _ HA2.out.2).mono ?_; rintro e w2 ⟨rfl, rfl⟩))
  clear hz HZ HST HSA HBO HH
  have hrg : (w1.alloc (Obj.cells L.toArray 83)).rangeAt w1.heap.size 0 L := fun j v hv => by
    rw [Nat.zero_add]
    exact cell_at (heap_alloc_new w1 _) (by simpa using hv)
  have hgb : w1.heap.size ≠ D.gw := fun e => by
    have := HA.out.rw.lt
    have := HB1.out.size
    omega
  have HGB := Lib.hid hgb
  clear HB1
  generalize w1.alloc (Obj.cells L.toArray 83) = W2 at *
  generalize w1.heap.size = gb at *
  have hth := HA2.out.2.rw.there HN.out
  obtain ⟨hr3, hb3, hs3⟩ := HA2.out.2.rw.drew.store HN.out HOK.out.w64 H64.out
  rw [HL.out] at hr3 hb3 hs3
  have npw : D.p ≠ D.gw := fun e => by
    obtain ⟨_, e1, _⟩ := HA.out.rw
    exact apart_of e1 HA.out.obj (by decide) e.symm
  have HS2 : Hid ((W2.drew.setCells D.gw (n * 64) L).cell? ⟨D.p, 1, none⟩ = some (.slice (some ⟨D.gw, 0, none⟩) d.ws.length D.cw) ∧ (W2.drew.setCells D.gw (n * 64) L).rangeAt gb 0 L ∧ (W2.drew.setCells D.gw (n * 64) L).there D.gw (n * 64) 64) := Lib.hid
    ⟨(hb3.cell (p := ⟨D.p, 1, none⟩) (lt_of_heap HA2.out.2.obj) npw).trans c1, World.rangeAt_setCells_apart (by simpa using hrg) _ _ _ (Or.inl hgb), World.there_setCells (by simpa using hth) _ _ _⟩
  have HA3 : Hid (DskAt (W2.drew.setCells D.gw (n * 64) L) D { d with ws := d.ws.set n b } ∧ But D.gw W2 (W2.drew.setCells D.gw (n * 64) L)) := Lib.hid ⟨HA2.out.2.drew.rowW hb3 hr3 (by simp), hb3.1, hb3.2.1, hb3.2.2.1, hb3.2.2.2.1, hb3.2.2.2.2⟩
  have c2' := (hb3.cell (p := ⟨D.p, 2, none⟩) (lt_of_heap HA2.out.2.obj) npw).trans c2
  have hu := Tryz.underlying83
  have hcl := HL64.out
  have hi64 : (Tryz.prog.info? 83).map (·.size) = some L.length := by rw [hcl]; exact sizeBk
  have hone := HL1.out
  have q1 : (0 : Int) ≤ n := by omega
  have q2 : (n : Int) < d.ws.length := by have := HN.out; omega
  have q3 : (n : Int).toNat = n := by omega
  clear hr3 hb3 hs3 npw hgb HL64 HL1 HL
  generalize hB : d.ws.length = B at *
  go_region_held3 (fun W => W.cell? ⟨D.p, 1, none⟩ = some (.slice (some ⟨D.gw, 0, none⟩) B D.cw) ∧ W.rangeAt gb 0 L ∧ W.there D.gw (n * 64) 64) (first | exact ⟨c1, hrg, hth⟩ | exact HS2.out) (fail)
  clear hrg hth hu hcl hi64 hone HS2 c1 c2 c5
  have HE1 : Hid ((d.ps.erase n).length ≤ 1000000) := Lib.hid (by
    have h1 := HOK.out.plen
    have h2 : (d.ps.erase n).length ≤ d.ps.length := List.length_erase_le
    omega)
  have HN' : Hid (n < d.ws.length) := Lib.hid (by rw [hB]; exact HN.out)
  have HP := Lib.hid (dtaken_any _ D.vp d.ps HA3.out.1.rp (by have := HOK.out.plen; show d.ps.length ≤ 5000; omega) n)
  have HU3 : Hid (Upd D.F w (W2.drew.setCells D.gw (n * 64) L)) := Lib.hid ((Upd.of_below HA2.out.1).step (Upd.of_but HA3.out.2) (fun x hx => by simp at hx; subst hx; simp [DskP.F]))
  have HA4 := Lib.hid HA3.out.1
  clear HA3 HA2 HGB hB q2 q3
  generalize W2.drew.setCells D.gw (n * 64) L = W3 at *
  obtain ⟨va, vn, vc, hv⟩ := HA.out.rp.shape'
  have HV := Lib.hid hv
  have c2x : W3.cell? ⟨D.p, 2, none⟩ = some (.slice va vn vc) := by rw [c2', hv]; rfl
  rw [hv] at HP
  clear c2' hv
  go_wp2_with (first
    | (go_at_call 53; refine HP.out.mono ?_; rintro e w4 ⟨v4, rfl, hh4, ho4, hu4⟩
       have HH4 := Lib.hid (HeldN.alloc hh4 (.cells #[.int .i64 n] 3)); have HH4' := Lib.hid (And.intro hh4 (And.intro ho4 hu4)); clear hh4 ho4 hu4)
    | (at_builtin; refine appendN rfl _ _ rfl HH4.out rfl rfl (k := n) (by simp [nI]) HE1.out ?_
       intro v5 w5 hv5 hg5 hl5
       have HE5 := Lib.hid (write_end HA4.out (HH4'.out.2.1.trans (by rw [HV.out])) (by rw [HV.out]; exact HH4'.out.2.2) hg5)
       have ho5 := (HE5.out.1 D.p (Or.inl rfl)).trans HA4.out.obj
       have c2y := cell_at ho5 (k := 2) rfl
       have f2y := free_at ho5 (k := 2)
       obtain ⟨a5, n5, c5, hv5e⟩ := hv5.shape'
       have HV5 := Lib.hid hv5e
       subst hv5e
       have HH5 := Lib.hid hv5
       have HL5 := Lib.hid hl5
       have HACT := Lib.hid (dact_any _ _ _ (HA4.out.vpset hv5 HE5.out.1) (HOK.out.wrote0 HN'.out H64.out) HD.out)
       clear ho5 hv5 hg5 hl5)
    | (go_at_call 98; refine HACT.out.mono ?_; rintro e w6 ⟨rfl, hA6, hb6⟩))
  go_ret
  refine ⟨rfl, _, hA6, ?_, ?_⟩
  · refine ((HU3.out.step HE5.out.2 ?_).setCell (p := ⟨D.p, 2, none⟩) (Or.inl (by simp [DskP.F])) _).step (Upd.of_but hb6) ?_
    · intro x hx
      simp only [DskP.F, List.mem_cons]
      exact Or.inr (Or.inr (Or.inr hx))
    · intro x hx
      rw [List.mem_singleton.1 hx]
      simp [DskP.F]
  · intro g hg
    rcases HL5.out g hg with h1 | h1
    · left
      rw [← h1, HH4'.out.2.1, HV.out]
    · right
      have h2 := HU3.out.size
      have h3 := HH4'.out.2.2.size
      have h4 : (w4.alloc (Obj.cells #[Value.int IntKind.i64 (n : Int)] 3)).heap.size = w4.heap.size + 1 := by simp
      omega
end Go.Proofs.YtlommddabccdeaaGreatDoor
