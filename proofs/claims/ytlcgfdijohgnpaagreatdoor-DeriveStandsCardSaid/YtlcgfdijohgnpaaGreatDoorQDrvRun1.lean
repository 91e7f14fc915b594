/-
  DrvRun1.
-/
import Derived.Test.YtlcgfdijohgnpaaGreatDoorQDrvNum
namespace Go.Proofs.YtlcgfdijohgnpaaGreatDoor
open Go.ChangeShapes Go.WideShapes Go.ChangeAt Go.RowKit

set_option maxRecDepth 100000 in
theorem dops_any (w : World) : Calls Tryz.prog 46 #[] w fun e w' => e = .returned (.slice (some ⟨w.heap.size, 0, none⟩) 7 7) ∧ w'.cell? ⟨w.heap.size, 4, none⟩ = some (.func (.func 79) #[] #[]) ∧ w'.cell? ⟨w.heap.size, 5, none⟩ = some (.func (.func 80) #[] #[]) ∧ w'.cell? ⟨w.heap.size, 6, none⟩ = some (.func (.func 76) #[] #[]) ∧ Below w.heap.size w w' := by
 have HB : Hid (∀ o, Below w.heap.size w (w.alloc o)) := Lib.hid fun o => below_one w o
 go_enter Tryz.func46, Tryz.ntmps46
 go_wp2
 go_ret
 exact ⟨rfl, by simp, by simp, by simp, HB.out _⟩
def OpIs (op a b r : Int) : Prop := (op = 4 ∧ a = 3 ∧ b = 16 ∧ r = 48) ∨ (op = 5 ∧ a = 4194304 ∧ b = 1024 ∧ r = 4096) ∨ (op = 6 ∧ a = 2 ∧ b = 1 ∧ r = 3)
def opF (op : Int) : Nat := if op = 4 then 79 else if op = 5 then 80 else 76
theorem dop_any {op a b r : Int} (h : OpIs op a b r) (w : World) (y d : Nat) (h0 : w.cell? ⟨y, 0, none⟩ = some (.int .i64 a)) (h1 : w.cell? ⟨y, 1, none⟩ = some (.int .i64 b)) :
  Calls Tryz.prog (opF op) #[.slice (some ⟨y, 0, none⟩) 2 d] w fun e w' => e = .returned (.tuple #[.int .i64 r, .bool true]) ∧ Below w.heap.size w w' := by
 rcases h with ⟨rfl, rfl, rfl, rfl⟩ | ⟨rfl, rfl, rfl, rfl⟩ | ⟨rfl, rfl, rfl, rfl⟩
 ·exact (dmul_any w y d h0 h1).mono fun e w' ⟨h1, h2⟩ => ⟨h1, h2 ▸ Below.refl _ _⟩
 ·exact dshared_any w y d h0 h1
 ·exact (dadded_any w y d h0 h1).mono fun e w' ⟨h1, h2⟩ => ⟨h1, h2 ▸ Below.refl _ _⟩
def RunRes (F : Nat → Prop) (w : World) (X : Nat) (dx : Option Addr) (dc : Nat) (ks : List KeyV) (xs : List SetV) (e : Ending) (w' : World) : Prop :=
 ∃ F2 hx hc ms, e = .returned (.bool true) ∧ LayAt F2 w' X dx dc hx hc ks ms ∧ LayOk ks ms ∧ ms.map (·.x) = xs ∧ (∀ b, F2 b → F b ∨ w.heap.size ≤ b) ∧ But X w w'
theorem But.and_ {S : Nat} {a b c : World} (h : But S a b) (k : But S b c) : But S a c :=
 ⟨k.1.trans h.1, k.2.1.trans h.2.1, k.2.2.1.trans h.2.2.1, Nat.le_trans h.2.2.2.1 k.2.2.2.1, fun x hx hne => (k.2.2.2.2 x (Nat.lt_of_lt_of_le hx h.2.2.2.1) hne).trans (h.2.2.2.2 x hx hne)⟩
theorem LayOk.set {ks : List KeyV} {ms : List SetM} (h : LayOk ks ms) {j : Nat} (hj : j < ms.length) (hj2 : j < ks.length) {v : Val} {fr : Int} (hv : mayV ks[j] v = true) (hf : 0 ≤ fr ∧ fr ≤ 5) (y : Option Addr) (d : Nat) : LayOk ks (ms.set j ⟨⟨ms[j].x.name, v, fr⟩, y, d⟩) := by
 refine ⟨by rw [List.length_set]; exact h.len, fun i h1 h2 => ?_, fun i h1 h2 => ?_, fun m hm => ?_⟩
 ·rw [List.length_set] at h1
  rw [List.getElem_set]
  split
  ·rename_i e; subst e; exact h.names j hj h2
  ·exact h.names i h1 h2
 ·rw [List.length_set] at h1
  rw [List.getElem_set]
  split
  ·rename_i e; subst e; exact hv
  ·exact h.may i h1 h2
 ·obtain ⟨i, h1, e⟩ := List.getElem_of_mem hm
  rw [List.length_set] at h1
  rw [← e, List.getElem_set]
  split
  ·exact hf
  ·exact h.from_ _ (List.getElem_mem h1)
theorem map_set {ms : List SetM} {j : Nat} {m : SetM} : (ms.set j m).map (·.x) = (ms.map (·.x)).set j m.x := by rw [List.map_set]
theorem gets_of {F : Nat → Prop} {X : Nat} {w : World} {dx hx : Option Addr} {dc hc : Nat} {ks : List KeyV} {ms : List SetM} (h : LayAt F w X dx dc hx hc ks ms) (hok : LayOk ks ms) (hs : Sorted ks) (hd : Dis (namesM ms)) (hn : ms.length ≤ 1000) {s : ByteArray} {j : Nat} (hj : j < ms.length) (hp : placeN (namesM ms) s = (j : Int)) : GetsAt w X s ms[j].x := fun W hW =>
 (lget_any F X W dx hx dc hc ks ms (h.below hW) hok hs hd hn s).mono fun _ _ hr => get_at hr hp hj
set_option maxHeartbeats 6400000 in
set_option maxRecDepth 100000 in
theorem drunMul_any (F : Nat → Prop) (X : Nat) (w : World) (dx hx : Option Addr) (dc hc : Nat) (ks : List KeyV) (ms : List SetM) (h : LayAt F w X dx dc hx hc ks ms) (hok : LayOk ks ms) (hs : Sorted ks) (hd : Dis (namesM ms)) (hn : ms.length ≤ 1000) (hT : Tab w) (m : RuleM) (s : ByteArray) (hm : m.x.needs = [s]) (ht : TxAt w m.a m.x.needs)
  (jt jn : Nat) (ht1 : jt < ms.length) (hk1 : jt < ks.length) (hn1 : jn < ms.length) (hpt : placeN (namesM ms) m.x.target = (jt : Int)) (hpn : placeN (namesM ms) s = (jn : Int)) (hfr : ms[jt].x.from_ = 0)
  (hop : m.x.op = 4) (hnum : numD 4 ms[jn].x = 3) (had : m.x.add = 16) (hmay : mayV ks[jt] ⟨ms[jt].x.val.kind, 48, ⟨#[]⟩, []⟩ = true) :
  Calls Tryz.prog 23 #[rAgg m, .pointer (some ⟨X, 0, none⟩)] w (RunRes F w X dx dc ks ((ms.map (·.x)).set jt ⟨ms[jt].x.name, ⟨ms[jt].x.val.kind, 48, ⟨#[]⟩, []⟩, 5⟩)) := by
 have HB : Hid (∀ o, Below w.heap.size w (w.alloc o)) := Lib.hid fun o => below_one w o
 have HG := Lib.hid (gets_of h hok hs hd hn ht1 hpt)
 have HG2 := Lib.hid (gets_of h hok hs hd hn hn1 hpn)
 have HNM : Hid (∀ W, Below w.heap.size w W → Calls Tryz.prog 47 #[rAgg m, .pointer (some ⟨X, 0, none⟩)] W fun e w' => ∃ y d, e = .returned (.slice (some ⟨y, 0, none⟩) 2 d) ∧ w'.ownsRow W.heap.size 3 1 (.slice (some ⟨y, 0, none⟩) 2 d) 2 [iv 3, iv 16] ∧ Below W.heap.size W w') := Lib.hid fun W hW => by
  have := dnumbers_any W X m s ms[jn].x hm (ht.below hW) (HG2.out.below hW)
  rw [hop, hnum, had] at this
  exact this
 have HPT : Hid (∀ W, Below w.heap.size w W → Calls Tryz.prog 24 #[.pointer (some ⟨X, 0, none⟩), .string m.x.target, .agg #[.int .i64 ms[jt].x.val.kind, .int .i64 48, .string ⟨#[]⟩, .slice none 0 0], .int .i64 5] W fun e w' => e = .returned (.int .i64 0) ∧ RunRes F w X dx dc ks ((ms.map (·.x)).set jt ⟨ms[jt].x.name, ⟨ms[jt].x.val.kind, 48, ⟨#[]⟩, []⟩, 5⟩) (.returned (.bool true)) w') := Lib.hid fun W hW => by
  have hp := lput_any F X W dx hx dc hc ks ms (h.below hW) hok hs hd hn m.x.target ⟨ms[jt].x.val.kind, 48, ⟨#[]⟩, []⟩ none 0 ⟨Txts.nil_ _ _, Nat.le_refl _, Nat.zero_le _, fun k h => absurd h (Nat.not_lt_zero k), (show (0 : Nat) ≤ _ from Nat.zero_le _)⟩ (Nat.zero_le _) (fun k h => absurd h (Nat.not_lt_zero k)) (show (0 : Nat) ≤ _ from Nat.zero_le _) 5 (hT.below hW)
  refine hp.mono fun e w' hr => ?_
  obtain ⟨E, he, ⟨h1, _⟩ | ⟨j, h1, h2, hj, h3⟩⟩ := hr
  ·omega
  ·obtain rfl : j = jt := by omega
   rcases h3 with ⟨h3, _⟩ | ⟨_, h3, _⟩ | ⟨h3, h4, hE, hx', hc', y, d, hl, hb⟩
   ·rw [hmay] at h3; cases h3
   ·exact absurd (by decide) h3
   ·subst hE
    exact ⟨he, _, hx', hc', _, rfl, hl, hok.set h1 h2 hmay (by decide) y d, map_set, fun b hb => by
     rcases hb with hb | hb
     ·exact .inl hb
     ·exact .inr (Nat.le_trans hW.size hb.1), (But.of_below hW).and_ hb⟩
 have HX : Hid (∀ t, Box4 (w.alloc (Obj.cells #[.string m.x.target, .slice m.a m.x.needs.length m.c, .int .i64 m.x.op, .int .i64 m.x.add] t)) w.heap.size (.string m.x.target) (.slice m.a m.x.needs.length m.c) (.int .i64 m.x.op) (.int .i64 m.x.add)) := Lib.hid fun t => box4_new w _ _ _ _ t
 have HOP : Hid (∀ W, Calls Tryz.prog 46 #[] W fun e w' => ∃ k, e = .returned (.slice (some ⟨k, 0, none⟩) 7 7) ∧ w'.cell? ⟨k, 4, none⟩ = some (.func (.func 79) #[] #[]) ∧ Below W.heap.size W w') := Lib.hid fun W => (dops_any W).mono fun _ _ hh => ⟨_, hh.1, hh.2.1, hh.2.2.2.2⟩
 have HDO : Hid (∀ W y d, W.cell? ⟨y, 0, none⟩ = some (.int .i64 3) → W.cell? ⟨y, 1, none⟩ = some (.int .i64 16) → Calls Tryz.prog 79 #[.slice (some ⟨y, 0, none⟩) 2 d] W fun e w' => e = .returned (.tuple #[.int .i64 48, .bool true]) ∧ Below W.heap.size W w') := Lib.hid fun W y d h0 h1 => dop_any (op := 4) (a := 3) (b := 16) (r := 48) (by unfold OpIs; omega) W y d h0 h1
 clear h hok hs hd hn hT hnum hmay HG2 hpt hpn ht
 unfold rAgg at HNM ⊢
 obtain ⟨⟨tg, ns, op, ad⟩, a, mc⟩ := m
 simp only at hm hop had HG HNM HPT HX ⊢
 subst hop had
 generalize ns.length = nl at HNM HX ⊢
 generalize ms[jt].x = tx at *
 obtain ⟨tnm, ⟨tk, ti, tt, tw⟩, tf⟩ := tx
 unfold GetsAt at HG
 unfold sVal at HG
 simp only at hfr HG HPT ⊢
 generalize tw.length = twn at HG
 clear hm
 have hg := HG.out _ (HB.out (Obj.cells #[.string tg, .slice a nl mc, .int .i64 4, .int .i64 16] 28))
 have HSV : Hid (∀ (W : World) (y : Option Addr) (d : Nat), Below W.heap.size W (W.alloc (Obj.cells #[.string tnm, .int .i64 tk, .int .i64 ti, .string tt, .slice y twn d, .int .i64 tf] 39)) ∧ (W.alloc (Obj.cells #[.string tnm, .int .i64 tk, .int .i64 ti, .string tt, .slice y twn d, .int .i64 tf] 39)).cell? ⟨W.heap.size, 1, none⟩ = some (.int .i64 tk)) := Lib.hid fun W y d => ⟨below_one W _, by simp⟩
 subst hfr
 go_enter Tryz.func23, Tryz.ntmps23
 go_wp2_with fail
 refine hg.mono ?_
 rintro e w2 ⟨y, d, rfl, hb2, _⟩
 obtain ⟨hbs, hs1⟩ := HSV.out w2 y d
 have HB3 := Lib.hid ((HB.out _).trans ((hb2.trans (hbs.mono hb2.size)).mono (HB.out _).size))
 have HX3 := Lib.hid ((HX.out 28).below (hb2.trans (hbs.mono hb2.size)))
 have HS3 := Lib.hid hs1
 clear hb2 hbs hs1 hg
 obtain ⟨x0, x1, x2, x3, _, _, _, _⟩ := HX3.out
 go_wp2
 generalize w2.alloc (Obj.cells #[.string tnm, .int .i64 tk, .int .i64 ti, .string tt, .slice y twn d, .int .i64 0] 39) = W3 at *
 generalize w2.heap.size = S at *
 have HBD : Hid (Below w.heap.size w W3.drew) := Lib.hid (HB3.out.trans ((below_drewN W3 1).mono HB3.out.size))
 have hS3 : W3.drew.cell? ⟨S, 1, none⟩ = some (.int .i64 tk) := HS3.out
 refine wp_region_held_drew (S := (fun W => W.cell? ⟨w.heap.size, 0, none⟩ = some (.string tg) ∧ W.cell? ⟨w.heap.size, 1, none⟩ = some (.slice a nl mc) ∧ W.cell? ⟨w.heap.size, 2, none⟩ = some (.int .i64 4) ∧ W.cell? ⟨w.heap.size, 3, none⟩ = some (.int .i64 16))) (by kernel_rfl) ⟨x0, x1, x2, x3⟩ (fun hH0 => ?_)
 refine' wpAnyH_take (i := 1) rfl (by kernel_rfl) (by kernel_rfl) (by kernel_rfl) (fun _ _ _ h => h) (Or.inl ⟨by rfl, ?hy1⟩) (by assumption) ?rest1
 case hy1 => (intro w hSw; (try dsimp only at hSw); go_simp; (try with_reducible rfl))
 try simp only [Act.put]
 try simp only [List.setIfInBounds_toArray]
 try simp only [List.set_cons_zero, List.set_cons_succ]
 refine' wpAnyH_take (i := 2) rfl (by kernel_rfl) (by kernel_rfl) (by kernel_rfl) (fun _ _ _ h => h) (Or.inl ⟨by rfl, ?hy2⟩) (by assumption) ?rest2
 case hy2 => (intro w hSw; (try dsimp only at hSw); go_simp; (try with_reducible rfl))
 try simp only [Act.put]
 try simp only [List.setIfInBounds_toArray]
 try simp only [List.set_cons_zero, List.set_cons_succ]
 refine' wpAnyH_take (i := 5) rfl (by kernel_rfl) (by kernel_rfl) (by kernel_rfl) (fun _ _ _ h => h) (Or.inl ⟨by rfl, ?hy3⟩) (by assumption) ?rest3
 case hy3 => (intro w hSw; (try dsimp only at hSw); go_simp; (try with_reducible rfl))
 try simp only [Act.put]
 try simp only [List.setIfInBounds_toArray]
 try simp only [List.set_cons_zero, List.set_cons_succ]
 refine' wpAnyH_take (i := 6) rfl (by kernel_rfl) (by kernel_rfl) (by kernel_rfl) (fun _ _ _ h => h) (Or.inl ⟨by rfl, ?hy4⟩) (by assumption) ?rest4
 case hy4 => (intro w hSw; (try dsimp only at hSw); go_simp; (try with_reducible rfl))
 try simp only [Act.put]
 try simp only [List.setIfInBounds_toArray]
 try simp only [List.set_cons_zero, List.set_cons_succ]
 refine wpAnyH_ready (rs := [0]) (by kernel_rfl) (by simp) ?_
 refine AllReadyH.cons rfl (fun K hK => ?_) AllReadyH.nil
 go_simp
 (with_reducible refine (HOP.out _).mono ?_)
 rintro e w4 ⟨k, rfl, hf4, hb4⟩
 have ck : ∀ {b o : Nat} {v : Value}, W3.drew.cell? ⟨b, o, none⟩ = some v → w4.cell? ⟨b, o, none⟩ = some v := fun {b o v} h => (hb4.cell (p := ⟨b, o, none⟩) (lt_of_cell h)).trans h
 have KS4 := Lib.hid (And.intro (ck x0) (And.intro (ck x1) (And.intro (ck x2) (ck x3))))
 have HK4 := Lib.hid (And.intro hf4 (ck hS3))
 have HB4 := Lib.hid (HBD.out.trans (hb4.mono HBD.out.size))
 clear hb4 ck hf4
 dsimp only
 refine hK.out _ _ ?_ (fun hH1 => ?_)
 ·(try dsimp only); (first | exact ⟨x0, x1, x2, x3⟩ | exact KS4.out | exact KS5.out | exact KS6.out)
 clear hK K
 try simp only [Act.put]
 try simp only [List.setIfInBounds_toArray]
 try simp only [List.set_cons_zero, List.set_cons_succ]
 refine' wpAnyH_take (i := 3) rfl (by kernel_rfl) (by kernel_rfl) (by kernel_rfl) (fun _ _ _ h => h) (Or.inl ⟨by rfl, ?hy5⟩) (by assumption) ?rest5
 case hy5 => (intro w hSw; (try dsimp only at hSw); go_simp; (try with_reducible rfl))
 try simp only [Act.put]
 try simp only [List.setIfInBounds_toArray]
 try simp only [List.set_cons_zero, List.set_cons_succ]
 refine wpAnyH_ready (rs := [4, 7]) (by kernel_rfl) (by simp) ?_
 refine AllReadyH.cons rfl (fun K hK => ?_) (AllReadyH.cons rfl (fun K hK => ?_) AllReadyH.nil)
 ·skip
  have hff := HK4.out.1
  go_simp
  clear hff
  refine hK.out _ _ ?_ (fun hH2 => ?_)
  ·(try dsimp only); (first | exact ⟨x0, x1, x2, x3⟩ | exact KS4.out | exact KS5.out | exact KS6.out)
  clear hK K
  try simp only [Act.put]
  try simp only [List.setIfInBounds_toArray]
  try simp only [List.set_cons_zero, List.set_cons_succ]
  refine wpAnyH_ready (rs := [7]) (by kernel_rfl) (by simp) ?_
  refine AllReadyH.cons rfl (fun K hK => ?_) AllReadyH.nil
  go_simp
  (with_reducible refine (HNM.out _ HB4.out).mono ?_)
  rintro e w5 ⟨z, f, rfl, hr5, hb5⟩
  have ck : ∀ {b o : Nat} {v : Value}, w4.cell? ⟨b, o, none⟩ = some v → w5.cell? ⟨b, o, none⟩ = some v := fun {b o v} h => (hb5.cell (p := ⟨b, o, none⟩) (lt_of_cell h)).trans h
  have KS5 := Lib.hid (And.intro (ck KS4.out.1) (And.intro (ck KS4.out.2.1) (And.intro (ck KS4.out.2.2.1) (ck KS4.out.2.2.2))))
  have HK5 := Lib.hid (And.intro (hr5.cellAt 0 (by decide)) (And.intro (hr5.cellAt 1 (by decide)) (And.intro (ck HK4.out.2) (ck HK4.out.1))))
  have HB5 := Lib.hid (HB4.out.trans (hb5.mono HB4.out.size))
  clear hr5 hb5 ck
  dsimp only
  refine hK.out _ _ ?_ (fun hH3 => ?_)
  ·(try dsimp only); (first | exact ⟨x0, x1, x2, x3⟩ | exact KS4.out | exact KS5.out | exact KS6.out)
  clear hK K
  try simp only [Act.put]
  try simp only [List.setIfInBounds_toArray]
  try simp only [List.set_cons_zero, List.set_cons_succ]
  refine wpAnyH_ready (rs := [8]) (by kernel_rfl) (by simp) ?_
  refine AllReadyH.cons rfl (fun K hK => ?_) AllReadyH.nil
  go_simp
  (with_reducible refine (HDO.out _ _ _ HK5.out.1 HK5.out.2.1).mono ?_)
  rintro e w6 ⟨rfl, hb6⟩
  have ck : ∀ {b o : Nat} {v : Value}, w5.cell? ⟨b, o, none⟩ = some v → w6.cell? ⟨b, o, none⟩ = some v := fun {b o v} h => (hb6.cell (p := ⟨b, o, none⟩) (lt_of_cell h)).trans h
  have KS6 := Lib.hid (And.intro (ck KS5.out.1) (And.intro (ck KS5.out.2.1) (And.intro (ck KS5.out.2.2.1) (ck KS5.out.2.2.2))))
  have HK6 := Lib.hid (And.intro (ck KS5.out.1) (ck HK5.out.2.2.1))
  have HB6 := Lib.hid (HB5.out.trans (hb6.mono HB5.out.size))
  clear hb6 ck
  dsimp only
  refine hK.out _ _ ?_ (fun hH4 => ?_)
  ·(try dsimp only); (first | exact ⟨x0, x1, x2, x3⟩ | exact KS4.out | exact KS5.out | exact KS6.out)
  clear hK K
  try simp only [Act.put]
  try simp only [List.setIfInBounds_toArray]
  try simp only [List.set_cons_zero, List.set_cons_succ]
  refine' wpAnyH_take (i := 9) rfl (by kernel_rfl) (by kernel_rfl) (by kernel_rfl) (fun _ _ _ h => h) (Or.inl ⟨by rfl, ?hy6⟩) (by assumption) ?rest6
  case hy6 => (intro w hSw; (try dsimp only at hSw); go_simp; (try with_reducible rfl))
  try simp only [Act.put]
  try simp only [List.setIfInBounds_toArray]
  try simp only [List.set_cons_zero, List.set_cons_succ]
  refine' wpAnyH_take (i := 10) rfl (by kernel_rfl) (by kernel_rfl) (by kernel_rfl) (fun _ _ _ h => h) (Or.inl ⟨by rfl, ?hy7⟩) (by assumption) ?rest7
  case hy7 => (intro w hSw; (try dsimp only at hSw); go_simp; (try with_reducible rfl))
  try simp only [Act.put]
  try simp only [List.setIfInBounds_toArray]
  try simp only [List.set_cons_zero, List.set_cons_succ]
  refine' wpAnyH_take (i := 11) rfl (by kernel_rfl) (by kernel_rfl) (by kernel_rfl) (fun _ _ _ h => h) (Or.inl ⟨by rfl, ?hy8⟩) (by assumption) ?rest8
  case hy8 => (intro w hSw; (try dsimp only at hSw); go_simp; (try with_reducible rfl))
  try simp only [Act.put]
  try simp only [List.setIfInBounds_toArray]
  try simp only [List.set_cons_zero, List.set_cons_succ]
  refine' wpAnyH_take (i := 12) rfl (by kernel_rfl) (by kernel_rfl) (by kernel_rfl) (fun _ _ _ h => h) (Or.inl ⟨by rfl, ?hy9⟩) (by assumption) ?rest9
  case hy9 => (intro w hSw; (try dsimp only at hSw); go_simp; (try with_reducible rfl))
  try simp only [Act.put]
  try simp only [List.setIfInBounds_toArray]
  try simp only [List.set_cons_zero, List.set_cons_succ]
  refine' wpAnyH_take (i := 13) rfl (by kernel_rfl) (by kernel_rfl) (by kernel_rfl) (fun _ _ _ h => h) (Or.inl ⟨by rfl, ?hy10⟩) (by assumption) ?rest10
  case hy10 => (intro w hSw; (try dsimp only at hSw); go_simp; (try with_reducible rfl))
  try simp only [Act.put]
  try simp only [List.setIfInBounds_toArray]
  try simp only [List.set_cons_zero, List.set_cons_succ]
  refine wpAnyH_done (by kernel_rfl) ?_ _
  have hp := HPT.out w6 HB6.out
  have v0 := HK6.out.1
  have v1 := HK6.out.2
  clear x0 x1 x2 x3 HK4 HK5 HK6 HB4 HB5 HB3 HX3 HS3 hS3 HBD HOP HNM HDO HG HX HB HSV HPT HB6 KS4 KS5 KS6 hH0
  go_wp2_with fail
  refine hp.mono ?_
  rintro e w7 ⟨rfl, hr7⟩
  have HE := Lib.hid hr7
  clear hr7 hp
  go_wp2
  go_ret
  exact HE.out
 ·skip
  go_simp
  (with_reducible refine (HNM.out _ HB4.out).mono ?_)
  rintro e w5 ⟨z, f, rfl, hr5, hb5⟩
  have ck : ∀ {b o : Nat} {v : Value}, w4.cell? ⟨b, o, none⟩ = some v → w5.cell? ⟨b, o, none⟩ = some v := fun {b o v} h => (hb5.cell (p := ⟨b, o, none⟩) (lt_of_cell h)).trans h
  have KS5 := Lib.hid (And.intro (ck KS4.out.1) (And.intro (ck KS4.out.2.1) (And.intro (ck KS4.out.2.2.1) (ck KS4.out.2.2.2))))
  have HK5 := Lib.hid (And.intro (hr5.cellAt 0 (by decide)) (And.intro (hr5.cellAt 1 (by decide)) (And.intro (ck HK4.out.2) (ck HK4.out.1))))
  have HB5 := Lib.hid (HB4.out.trans (hb5.mono HB4.out.size))
  clear hr5 hb5 ck
  dsimp only
  refine hK.out _ _ ?_ (fun hH5 => ?_)
  ·(try dsimp only); (first | exact ⟨x0, x1, x2, x3⟩ | exact KS4.out | exact KS5.out | exact KS6.out)
  clear hK K
  try simp only [Act.put]
  try simp only [List.setIfInBounds_toArray]
  try simp only [List.set_cons_zero, List.set_cons_succ]
  refine wpAnyH_ready (rs := [4]) (by kernel_rfl) (by simp) ?_
  refine AllReadyH.cons rfl (fun K hK => ?_) AllReadyH.nil
  have hff := HK5.out.2.2.2
  go_simp
  clear hff
  refine hK.out _ _ ?_ (fun hH6 => ?_)
  ·(try dsimp only); (first | exact ⟨x0, x1, x2, x3⟩ | exact KS4.out | exact KS5.out | exact KS6.out)
  clear hK K
  try simp only [Act.put]
  try simp only [List.setIfInBounds_toArray]
  try simp only [List.set_cons_zero, List.set_cons_succ]
  refine wpAnyH_ready (rs := [8]) (by kernel_rfl) (by simp) ?_
  refine AllReadyH.cons rfl (fun K hK => ?_) AllReadyH.nil
  go_simp
  (with_reducible refine (HDO.out _ _ _ HK5.out.1 HK5.out.2.1).mono ?_)
  rintro e w6 ⟨rfl, hb6⟩
  have ck : ∀ {b o : Nat} {v : Value}, w5.cell? ⟨b, o, none⟩ = some v → w6.cell? ⟨b, o, none⟩ = some v := fun {b o v} h => (hb6.cell (p := ⟨b, o, none⟩) (lt_of_cell h)).trans h
  have KS6 := Lib.hid (And.intro (ck KS5.out.1) (And.intro (ck KS5.out.2.1) (And.intro (ck KS5.out.2.2.1) (ck KS5.out.2.2.2))))
  have HK6 := Lib.hid (And.intro (ck KS5.out.1) (ck HK5.out.2.2.1))
  have HB6 := Lib.hid (HB5.out.trans (hb6.mono HB5.out.size))
  clear hb6 ck
  dsimp only
  refine hK.out _ _ ?_ (fun hH7 => ?_)
  ·(try dsimp only); (first | exact ⟨x0, x1, x2, x3⟩ | exact KS4.out | exact KS5.out | exact KS6.out)
  clear hK K
  try simp only [Act.put]
  try simp only [List.setIfInBounds_toArray]
  try simp only [List.set_cons_zero, List.set_cons_succ]
  refine' wpAnyH_take (i := 9) rfl (by kernel_rfl) (by kernel_rfl) (by kernel_rfl) (fun _ _ _ h => h) (Or.inl ⟨by rfl, ?hy11⟩) (by assumption) ?rest11
  case hy11 => (intro w hSw; (try dsimp only at hSw); go_simp; (try with_reducible rfl))
  try simp only [Act.put]
  try simp only [List.setIfInBounds_toArray]
  try simp only [List.set_cons_zero, List.set_cons_succ]
  refine' wpAnyH_take (i := 10) rfl (by kernel_rfl) (by kernel_rfl) (by kernel_rfl) (fun _ _ _ h => h) (Or.inl ⟨by rfl, ?hy12⟩) (by assumption) ?rest12
  case hy12 => (intro w hSw; (try dsimp only at hSw); go_simp; (try with_reducible rfl))
  try simp only [Act.put]
  try simp only [List.setIfInBounds_toArray]
  try simp only [List.set_cons_zero, List.set_cons_succ]
  refine' wpAnyH_take (i := 11) rfl (by kernel_rfl) (by kernel_rfl) (by kernel_rfl) (fun _ _ _ h => h) (Or.inl ⟨by rfl, ?hy13⟩) (by assumption) ?rest13
  case hy13 => (intro w hSw; (try dsimp only at hSw); go_simp; (try with_reducible rfl))
  try simp only [Act.put]
  try simp only [List.setIfInBounds_toArray]
  try simp only [List.set_cons_zero, List.set_cons_succ]
  refine' wpAnyH_take (i := 12) rfl (by kernel_rfl) (by kernel_rfl) (by kernel_rfl) (fun _ _ _ h => h) (Or.inl ⟨by rfl, ?hy14⟩) (by assumption) ?rest14
  case hy14 => (intro w hSw; (try dsimp only at hSw); go_simp; (try with_reducible rfl))
  try simp only [Act.put]
  try simp only [List.setIfInBounds_toArray]
  try simp only [List.set_cons_zero, List.set_cons_succ]
  refine' wpAnyH_take (i := 13) rfl (by kernel_rfl) (by kernel_rfl) (by kernel_rfl) (fun _ _ _ h => h) (Or.inl ⟨by rfl, ?hy15⟩) (by assumption) ?rest15
  case hy15 => (intro w hSw; (try dsimp only at hSw); go_simp; (try with_reducible rfl))
  try simp only [Act.put]
  try simp only [List.setIfInBounds_toArray]
  try simp only [List.set_cons_zero, List.set_cons_succ]
  refine wpAnyH_done (by kernel_rfl) ?_ _
  have hp := HPT.out w6 HB6.out
  have v0 := HK6.out.1
  have v1 := HK6.out.2
  clear x0 x1 x2 x3 HK4 HK5 HK6 HB4 HB5 HB3 HX3 HS3 hS3 HBD HOP HNM HDO HG HX HB HSV HPT HB6 KS4 KS5 KS6 hH0
  go_wp2_with fail
  refine hp.mono ?_
  rintro e w7 ⟨rfl, hr7⟩
  have HE := Lib.hid hr7
  clear hr7 hp
  go_wp2
  go_ret
  exact HE.out
set_option maxHeartbeats 6400000 in
set_option maxRecDepth 100000 in
theorem drunShr_any (F : Nat → Prop) (X : Nat) (w : World) (dx hx : Option Addr) (dc hc : Nat) (ks : List KeyV) (ms : List SetM) (h : LayAt F w X dx dc hx hc ks ms) (hok : LayOk ks ms) (hs : Sorted ks) (hd : Dis (namesM ms)) (hn : ms.length ≤ 1000) (hT : Tab w) (m : RuleM) (s : ByteArray) (hm : m.x.needs = [s]) (ht : TxAt w m.a m.x.needs)
  (jt jn : Nat) (ht1 : jt < ms.length) (hk1 : jt < ks.length) (hn1 : jn < ms.length) (hpt : placeN (namesM ms) m.x.target = (jt : Int)) (hpn : placeN (namesM ms) s = (jn : Int)) (hfr : ms[jt].x.from_ = 0)
  (hop : m.x.op = 5) (hnum : numD 5 ms[jn].x = 4194304) (had : m.x.add = 1024) (hmay : mayV ks[jt] ⟨ms[jt].x.val.kind, 4096, ⟨#[]⟩, []⟩ = true) :
  Calls Tryz.prog 23 #[rAgg m, .pointer (some ⟨X, 0, none⟩)] w (RunRes F w X dx dc ks ((ms.map (·.x)).set jt ⟨ms[jt].x.name, ⟨ms[jt].x.val.kind, 4096, ⟨#[]⟩, []⟩, 5⟩)) := by
 have HB : Hid (∀ o, Below w.heap.size w (w.alloc o)) := Lib.hid fun o => below_one w o
 have HG := Lib.hid (gets_of h hok hs hd hn ht1 hpt)
 have HG2 := Lib.hid (gets_of h hok hs hd hn hn1 hpn)
 have HNM : Hid (∀ W, Below w.heap.size w W → Calls Tryz.prog 47 #[rAgg m, .pointer (some ⟨X, 0, none⟩)] W fun e w' => ∃ y d, e = .returned (.slice (some ⟨y, 0, none⟩) 2 d) ∧ w'.ownsRow W.heap.size 3 1 (.slice (some ⟨y, 0, none⟩) 2 d) 2 [iv 4194304, iv 1024] ∧ Below W.heap.size W w') := Lib.hid fun W hW => by
  have := dnumbers_any W X m s ms[jn].x hm (ht.below hW) (HG2.out.below hW)
  rw [hop, hnum, had] at this
  exact this
 have HPT : Hid (∀ W, Below w.heap.size w W → Calls Tryz.prog 24 #[.pointer (some ⟨X, 0, none⟩), .string m.x.target, .agg #[.int .i64 ms[jt].x.val.kind, .int .i64 4096, .string ⟨#[]⟩, .slice none 0 0], .int .i64 5] W fun e w' => e = .returned (.int .i64 0) ∧ RunRes F w X dx dc ks ((ms.map (·.x)).set jt ⟨ms[jt].x.name, ⟨ms[jt].x.val.kind, 4096, ⟨#[]⟩, []⟩, 5⟩) (.returned (.bool true)) w') := Lib.hid fun W hW => by
  have hp := lput_any F X W dx hx dc hc ks ms (h.below hW) hok hs hd hn m.x.target ⟨ms[jt].x.val.kind, 4096, ⟨#[]⟩, []⟩ none 0 ⟨Txts.nil_ _ _, Nat.le_refl _, Nat.zero_le _, fun k h => absurd h (Nat.not_lt_zero k), (show (0 : Nat) ≤ _ from Nat.zero_le _)⟩ (Nat.zero_le _) (fun k h => absurd h (Nat.not_lt_zero k)) (show (0 : Nat) ≤ _ from Nat.zero_le _) 5 (hT.below hW)
  refine hp.mono fun e w' hr => ?_
  obtain ⟨E, he, ⟨h1, _⟩ | ⟨j, h1, h2, hj, h3⟩⟩ := hr
  ·omega
  ·obtain rfl : j = jt := by omega
   rcases h3 with ⟨h3, _⟩ | ⟨_, h3, _⟩ | ⟨h3, h4, hE, hx', hc', y, d, hl, hb⟩
   ·rw [hmay] at h3; cases h3
   ·exact absurd (by decide) h3
   ·subst hE
    exact ⟨he, _, hx', hc', _, rfl, hl, hok.set h1 h2 hmay (by decide) y d, map_set, fun b hb => by
     rcases hb with hb | hb
     ·exact .inl hb
     ·exact .inr (Nat.le_trans hW.size hb.1), (But.of_below hW).and_ hb⟩
 have HX : Hid (∀ t, Box4 (w.alloc (Obj.cells #[.string m.x.target, .slice m.a m.x.needs.length m.c, .int .i64 m.x.op, .int .i64 m.x.add] t)) w.heap.size (.string m.x.target) (.slice m.a m.x.needs.length m.c) (.int .i64 m.x.op) (.int .i64 m.x.add)) := Lib.hid fun t => box4_new w _ _ _ _ t
 have HOP : Hid (∀ W, Calls Tryz.prog 46 #[] W fun e w' => ∃ k, e = .returned (.slice (some ⟨k, 0, none⟩) 7 7) ∧ w'.cell? ⟨k, 5, none⟩ = some (.func (.func 80) #[] #[]) ∧ Below W.heap.size W w') := Lib.hid fun W => (dops_any W).mono fun _ _ hh => ⟨_, hh.1, hh.2.2.1, hh.2.2.2.2⟩
 have HDO : Hid (∀ W y d, W.cell? ⟨y, 0, none⟩ = some (.int .i64 4194304) → W.cell? ⟨y, 1, none⟩ = some (.int .i64 1024) → Calls Tryz.prog 80 #[.slice (some ⟨y, 0, none⟩) 2 d] W fun e w' => e = .returned (.tuple #[.int .i64 4096, .bool true]) ∧ Below W.heap.size W w') := Lib.hid fun W y d h0 h1 => dop_any (op := 5) (a := 4194304) (b := 1024) (r := 4096) (by unfold OpIs; omega) W y d h0 h1
 clear h hok hs hd hn hT hnum hmay HG2 hpt hpn ht
 unfold rAgg at HNM ⊢
 obtain ⟨⟨tg, ns, op, ad⟩, a, mc⟩ := m
 simp only at hm hop had HG HNM HPT HX ⊢
 subst hop had
 generalize ns.length = nl at HNM HX ⊢
 generalize ms[jt].x = tx at *
 obtain ⟨tnm, ⟨tk, ti, tt, tw⟩, tf⟩ := tx
 unfold GetsAt at HG
 unfold sVal at HG
 simp only at hfr HG HPT ⊢
 generalize tw.length = twn at HG
 clear hm
 have hg := HG.out _ (HB.out (Obj.cells #[.string tg, .slice a nl mc, .int .i64 5, .int .i64 1024] 28))
 have HSV : Hid (∀ (W : World) (y : Option Addr) (d : Nat), Below W.heap.size W (W.alloc (Obj.cells #[.string tnm, .int .i64 tk, .int .i64 ti, .string tt, .slice y twn d, .int .i64 tf] 39)) ∧ (W.alloc (Obj.cells #[.string tnm, .int .i64 tk, .int .i64 ti, .string tt, .slice y twn d, .int .i64 tf] 39)).cell? ⟨W.heap.size, 1, none⟩ = some (.int .i64 tk)) := Lib.hid fun W y d => ⟨below_one W _, by simp⟩
 subst hfr
 go_enter Tryz.func23, Tryz.ntmps23
 go_wp2_with fail
 refine hg.mono ?_
 rintro e w2 ⟨y, d, rfl, hb2, _⟩
 obtain ⟨hbs, hs1⟩ := HSV.out w2 y d
 have HB3 := Lib.hid ((HB.out _).trans ((hb2.trans (hbs.mono hb2.size)).mono (HB.out _).size))
 have HX3 := Lib.hid ((HX.out 28).below (hb2.trans (hbs.mono hb2.size)))
 have HS3 := Lib.hid hs1
 clear hb2 hbs hs1 hg
 obtain ⟨x0, x1, x2, x3, _, _, _, _⟩ := HX3.out
 go_wp2
 generalize w2.alloc (Obj.cells #[.string tnm, .int .i64 tk, .int .i64 ti, .string tt, .slice y twn d, .int .i64 0] 39) = W3 at *
 generalize w2.heap.size = S at *
 have HBD : Hid (Below w.heap.size w W3.drew) := Lib.hid (HB3.out.trans ((below_drewN W3 1).mono HB3.out.size))
 have hS3 : W3.drew.cell? ⟨S, 1, none⟩ = some (.int .i64 tk) := HS3.out
 refine wp_region_held_drew (S := (fun W => W.cell? ⟨w.heap.size, 0, none⟩ = some (.string tg) ∧ W.cell? ⟨w.heap.size, 1, none⟩ = some (.slice a nl mc) ∧ W.cell? ⟨w.heap.size, 2, none⟩ = some (.int .i64 5) ∧ W.cell? ⟨w.heap.size, 3, none⟩ = some (.int .i64 1024))) (by kernel_rfl) ⟨x0, x1, x2, x3⟩ (fun hH0 => ?_)
 refine' wpAnyH_take (i := 1) rfl (by kernel_rfl) (by kernel_rfl) (by kernel_rfl) (fun _ _ _ h => h) (Or.inl ⟨by rfl, ?hy1⟩) (by assumption) ?rest1
 case hy1 => (intro w hSw; (try dsimp only at hSw); go_simp; (try with_reducible rfl))
 try simp only [Act.put]
 try simp only [List.setIfInBounds_toArray]
 try simp only [List.set_cons_zero, List.set_cons_succ]
 refine' wpAnyH_take (i := 2) rfl (by kernel_rfl) (by kernel_rfl) (by kernel_rfl) (fun _ _ _ h => h) (Or.inl ⟨by rfl, ?hy2⟩) (by assumption) ?rest2
 case hy2 => (intro w hSw; (try dsimp only at hSw); go_simp; (try with_reducible rfl))
 try simp only [Act.put]
 try simp only [List.setIfInBounds_toArray]
 try simp only [List.set_cons_zero, List.set_cons_succ]
 refine' wpAnyH_take (i := 5) rfl (by kernel_rfl) (by kernel_rfl) (by kernel_rfl) (fun _ _ _ h => h) (Or.inl ⟨by rfl, ?hy3⟩) (by assumption) ?rest3
 case hy3 => (intro w hSw; (try dsimp only at hSw); go_simp; (try with_reducible rfl))
 try simp only [Act.put]
 try simp only [List.setIfInBounds_toArray]
 try simp only [List.set_cons_zero, List.set_cons_succ]
 refine' wpAnyH_take (i := 6) rfl (by kernel_rfl) (by kernel_rfl) (by kernel_rfl) (fun _ _ _ h => h) (Or.inl ⟨by rfl, ?hy4⟩) (by assumption) ?rest4
 case hy4 => (intro w hSw; (try dsimp only at hSw); go_simp; (try with_reducible rfl))
 try simp only [Act.put]
 try simp only [List.setIfInBounds_toArray]
 try simp only [List.set_cons_zero, List.set_cons_succ]
 refine wpAnyH_ready (rs := [0]) (by kernel_rfl) (by simp) ?_
 refine AllReadyH.cons rfl (fun K hK => ?_) AllReadyH.nil
 go_simp
 (with_reducible refine (HOP.out _).mono ?_)
 rintro e w4 ⟨k, rfl, hf4, hb4⟩
 have ck : ∀ {b o : Nat} {v : Value}, W3.drew.cell? ⟨b, o, none⟩ = some v → w4.cell? ⟨b, o, none⟩ = some v := fun {b o v} h => (hb4.cell (p := ⟨b, o, none⟩) (lt_of_cell h)).trans h
 have KS4 := Lib.hid (And.intro (ck x0) (And.intro (ck x1) (And.intro (ck x2) (ck x3))))
 have HK4 := Lib.hid (And.intro hf4 (ck hS3))
 have HB4 := Lib.hid (HBD.out.trans (hb4.mono HBD.out.size))
 clear hb4 ck hf4
 dsimp only
 refine hK.out _ _ ?_ (fun hH1 => ?_)
 ·(try dsimp only); (first | exact ⟨x0, x1, x2, x3⟩ | exact KS4.out | exact KS5.out | exact KS6.out)
 clear hK K
 try simp only [Act.put]
 try simp only [List.setIfInBounds_toArray]
 try simp only [List.set_cons_zero, List.set_cons_succ]
 refine' wpAnyH_take (i := 3) rfl (by kernel_rfl) (by kernel_rfl) (by kernel_rfl) (fun _ _ _ h => h) (Or.inl ⟨by rfl, ?hy5⟩) (by assumption) ?rest5
 case hy5 => (intro w hSw; (try dsimp only at hSw); go_simp; (try with_reducible rfl))
 try simp only [Act.put]
 try simp only [List.setIfInBounds_toArray]
 try simp only [List.set_cons_zero, List.set_cons_succ]
 refine wpAnyH_ready (rs := [4, 7]) (by kernel_rfl) (by simp) ?_
 refine AllReadyH.cons rfl (fun K hK => ?_) (AllReadyH.cons rfl (fun K hK => ?_) AllReadyH.nil)
 ·skip
  have hff := HK4.out.1
  go_simp
  clear hff
  refine hK.out _ _ ?_ (fun hH2 => ?_)
  ·(try dsimp only); (first | exact ⟨x0, x1, x2, x3⟩ | exact KS4.out | exact KS5.out | exact KS6.out)
  clear hK K
  try simp only [Act.put]
  try simp only [List.setIfInBounds_toArray]
  try simp only [List.set_cons_zero, List.set_cons_succ]
  refine wpAnyH_ready (rs := [7]) (by kernel_rfl) (by simp) ?_
  refine AllReadyH.cons rfl (fun K hK => ?_) AllReadyH.nil
  go_simp
  (with_reducible refine (HNM.out _ HB4.out).mono ?_)
  rintro e w5 ⟨z, f, rfl, hr5, hb5⟩
  have ck : ∀ {b o : Nat} {v : Value}, w4.cell? ⟨b, o, none⟩ = some v → w5.cell? ⟨b, o, none⟩ = some v := fun {b o v} h => (hb5.cell (p := ⟨b, o, none⟩) (lt_of_cell h)).trans h
  have KS5 := Lib.hid (And.intro (ck KS4.out.1) (And.intro (ck KS4.out.2.1) (And.intro (ck KS4.out.2.2.1) (ck KS4.out.2.2.2))))
  have HK5 := Lib.hid (And.intro (hr5.cellAt 0 (by decide)) (And.intro (hr5.cellAt 1 (by decide)) (And.intro (ck HK4.out.2) (ck HK4.out.1))))
  have HB5 := Lib.hid (HB4.out.trans (hb5.mono HB4.out.size))
  clear hr5 hb5 ck
  dsimp only
  refine hK.out _ _ ?_ (fun hH3 => ?_)
  ·(try dsimp only); (first | exact ⟨x0, x1, x2, x3⟩ | exact KS4.out | exact KS5.out | exact KS6.out)
  clear hK K
  try simp only [Act.put]
  try simp only [List.setIfInBounds_toArray]
  try simp only [List.set_cons_zero, List.set_cons_succ]
  refine wpAnyH_ready (rs := [8]) (by kernel_rfl) (by simp) ?_
  refine AllReadyH.cons rfl (fun K hK => ?_) AllReadyH.nil
  go_simp
  (with_reducible refine (HDO.out _ _ _ HK5.out.1 HK5.out.2.1).mono ?_)
  rintro e w6 ⟨rfl, hb6⟩
  have ck : ∀ {b o : Nat} {v : Value}, w5.cell? ⟨b, o, none⟩ = some v → w6.cell? ⟨b, o, none⟩ = some v := fun {b o v} h => (hb6.cell (p := ⟨b, o, none⟩) (lt_of_cell h)).trans h
  have KS6 := Lib.hid (And.intro (ck KS5.out.1) (And.intro (ck KS5.out.2.1) (And.intro (ck KS5.out.2.2.1) (ck KS5.out.2.2.2))))
  have HK6 := Lib.hid (And.intro (ck KS5.out.1) (ck HK5.out.2.2.1))
  have HB6 := Lib.hid (HB5.out.trans (hb6.mono HB5.out.size))
  clear hb6 ck
  dsimp only
  refine hK.out _ _ ?_ (fun hH4 => ?_)
  ·(try dsimp only); (first | exact ⟨x0, x1, x2, x3⟩ | exact KS4.out | exact KS5.out | exact KS6.out)
  clear hK K
  try simp only [Act.put]
  try simp only [List.setIfInBounds_toArray]
  try simp only [List.set_cons_zero, List.set_cons_succ]
  refine' wpAnyH_take (i := 9) rfl (by kernel_rfl) (by kernel_rfl) (by kernel_rfl) (fun _ _ _ h => h) (Or.inl ⟨by rfl, ?hy6⟩) (by assumption) ?rest6
  case hy6 => (intro w hSw; (try dsimp only at hSw); go_simp; (try with_reducible rfl))
  try simp only [Act.put]
  try simp only [List.setIfInBounds_toArray]
  try simp only [List.set_cons_zero, List.set_cons_succ]
  refine' wpAnyH_take (i := 10) rfl (by kernel_rfl) (by kernel_rfl) (by kernel_rfl) (fun _ _ _ h => h) (Or.inl ⟨by rfl, ?hy7⟩) (by assumption) ?rest7
  case hy7 => (intro w hSw; (try dsimp only at hSw); go_simp; (try with_reducible rfl))
  try simp only [Act.put]
  try simp only [List.setIfInBounds_toArray]
  try simp only [List.set_cons_zero, List.set_cons_succ]
  refine' wpAnyH_take (i := 11) rfl (by kernel_rfl) (by kernel_rfl) (by kernel_rfl) (fun _ _ _ h => h) (Or.inl ⟨by rfl, ?hy8⟩) (by assumption) ?rest8
  case hy8 => (intro w hSw; (try dsimp only at hSw); go_simp; (try with_reducible rfl))
  try simp only [Act.put]
  try simp only [List.setIfInBounds_toArray]
  try simp only [List.set_cons_zero, List.set_cons_succ]
  refine' wpAnyH_take (i := 12) rfl (by kernel_rfl) (by kernel_rfl) (by kernel_rfl) (fun _ _ _ h => h) (Or.inl ⟨by rfl, ?hy9⟩) (by assumption) ?rest9
  case hy9 => (intro w hSw; (try dsimp only at hSw); go_simp; (try with_reducible rfl))
  try simp only [Act.put]
  try simp only [List.setIfInBounds_toArray]
  try simp only [List.set_cons_zero, List.set_cons_succ]
  refine' wpAnyH_take (i := 13) rfl (by kernel_rfl) (by kernel_rfl) (by kernel_rfl) (fun _ _ _ h => h) (Or.inl ⟨by rfl, ?hy10⟩) (by assumption) ?rest10
  case hy10 => (intro w hSw; (try dsimp only at hSw); go_simp; (try with_reducible rfl))
  try simp only [Act.put]
  try simp only [List.setIfInBounds_toArray]
  try simp only [List.set_cons_zero, List.set_cons_succ]
  refine wpAnyH_done (by kernel_rfl) ?_ _
  have hp := HPT.out w6 HB6.out
  have v0 := HK6.out.1
  have v1 := HK6.out.2
  clear x0 x1 x2 x3 HK4 HK5 HK6 HB4 HB5 HB3 HX3 HS3 hS3 HBD HOP HNM HDO HG HX HB HSV HPT HB6 KS4 KS5 KS6 hH0
  go_wp2_with fail
  refine hp.mono ?_
  rintro e w7 ⟨rfl, hr7⟩
  have HE := Lib.hid hr7
  clear hr7 hp
  go_wp2
  go_ret
  exact HE.out
 ·skip
  go_simp
  (with_reducible refine (HNM.out _ HB4.out).mono ?_)
  rintro e w5 ⟨z, f, rfl, hr5, hb5⟩
  have ck : ∀ {b o : Nat} {v : Value}, w4.cell? ⟨b, o, none⟩ = some v → w5.cell? ⟨b, o, none⟩ = some v := fun {b o v} h => (hb5.cell (p := ⟨b, o, none⟩) (lt_of_cell h)).trans h
  have KS5 := Lib.hid (And.intro (ck KS4.out.1) (And.intro (ck KS4.out.2.1) (And.intro (ck KS4.out.2.2.1) (ck KS4.out.2.2.2))))
  have HK5 := Lib.hid (And.intro (hr5.cellAt 0 (by decide)) (And.intro (hr5.cellAt 1 (by decide)) (And.intro (ck HK4.out.2) (ck HK4.out.1))))
  have HB5 := Lib.hid (HB4.out.trans (hb5.mono HB4.out.size))
  clear hr5 hb5 ck
  dsimp only
  refine hK.out _ _ ?_ (fun hH5 => ?_)
  ·(try dsimp only); (first | exact ⟨x0, x1, x2, x3⟩ | exact KS4.out | exact KS5.out | exact KS6.out)
  clear hK K
  try simp only [Act.put]
  try simp only [List.setIfInBounds_toArray]
  try simp only [List.set_cons_zero, List.set_cons_succ]
  refine wpAnyH_ready (rs := [4]) (by kernel_rfl) (by simp) ?_
  refine AllReadyH.cons rfl (fun K hK => ?_) AllReadyH.nil
  have hff := HK5.out.2.2.2
  go_simp
  clear hff
  refine hK.out _ _ ?_ (fun hH6 => ?_)
  ·(try dsimp only); (first | exact ⟨x0, x1, x2, x3⟩ | exact KS4.out | exact KS5.out | exact KS6.out)
  clear hK K
  try simp only [Act.put]
  try simp only [List.setIfInBounds_toArray]
  try simp only [List.set_cons_zero, List.set_cons_succ]
  refine wpAnyH_ready (rs := [8]) (by kernel_rfl) (by simp) ?_
  refine AllReadyH.cons rfl (fun K hK => ?_) AllReadyH.nil
  go_simp
  (with_reducible refine (HDO.out _ _ _ HK5.out.1 HK5.out.2.1).mono ?_)
  rintro e w6 ⟨rfl, hb6⟩
  have ck : ∀ {b o : Nat} {v : Value}, w5.cell? ⟨b, o, none⟩ = some v → w6.cell? ⟨b, o, none⟩ = some v := fun {b o v} h => (hb6.cell (p := ⟨b, o, none⟩) (lt_of_cell h)).trans h
  have KS6 := Lib.hid (And.intro (ck KS5.out.1) (And.intro (ck KS5.out.2.1) (And.intro (ck KS5.out.2.2.1) (ck KS5.out.2.2.2))))
  have HK6 := Lib.hid (And.intro (ck KS5.out.1) (ck HK5.out.2.2.1))
  have HB6 := Lib.hid (HB5.out.trans (hb6.mono HB5.out.size))
  clear hb6 ck
  dsimp only
  refine hK.out _ _ ?_ (fun hH7 => ?_)
  ·(try dsimp only); (first | exact ⟨x0, x1, x2, x3⟩ | exact KS4.out | exact KS5.out | exact KS6.out)
  clear hK K
  try simp only [Act.put]
  try simp only [List.setIfInBounds_toArray]
  try simp only [List.set_cons_zero, List.set_cons_succ]
  refine' wpAnyH_take (i := 9) rfl (by kernel_rfl) (by kernel_rfl) (by kernel_rfl) (fun _ _ _ h => h) (Or.inl ⟨by rfl, ?hy11⟩) (by assumption) ?rest11
  case hy11 => (intro w hSw; (try dsimp only at hSw); go_simp; (try with_reducible rfl))
  try simp only [Act.put]
  try simp only [List.setIfInBounds_toArray]
  try simp only [List.set_cons_zero, List.set_cons_succ]
  refine' wpAnyH_take (i := 10) rfl (by kernel_rfl) (by kernel_rfl) (by kernel_rfl) (fun _ _ _ h => h) (Or.inl ⟨by rfl, ?hy12⟩) (by assumption) ?rest12
  case hy12 => (intro w hSw; (try dsimp only at hSw); go_simp; (try with_reducible rfl))
  try simp only [Act.put]
  try simp only [List.setIfInBounds_toArray]
  try simp only [List.set_cons_zero, List.set_cons_succ]
  refine' wpAnyH_take (i := 11) rfl (by kernel_rfl) (by kernel_rfl) (by kernel_rfl) (fun _ _ _ h => h) (Or.inl ⟨by rfl, ?hy13⟩) (by assumption) ?rest13
  case hy13 => (intro w hSw; (try dsimp only at hSw); go_simp; (try with_reducible rfl))
  try simp only [Act.put]
  try simp only [List.setIfInBounds_toArray]
  try simp only [List.set_cons_zero, List.set_cons_succ]
  refine' wpAnyH_take (i := 12) rfl (by kernel_rfl) (by kernel_rfl) (by kernel_rfl) (fun _ _ _ h => h) (Or.inl ⟨by rfl, ?hy14⟩) (by assumption) ?rest14
  case hy14 => (intro w hSw; (try dsimp only at hSw); go_simp; (try with_reducible rfl))
  try simp only [Act.put]
  try simp only [List.setIfInBounds_toArray]
  try simp only [List.set_cons_zero, List.set_cons_succ]
  refine' wpAnyH_take (i := 13) rfl (by kernel_rfl) (by kernel_rfl) (by kernel_rfl) (fun _ _ _ h => h) (Or.inl ⟨by rfl, ?hy15⟩) (by assumption) ?rest15
  case hy15 => (intro w hSw; (try dsimp only at hSw); go_simp; (try with_reducible rfl))
  try simp only [Act.put]
  try simp only [List.setIfInBounds_toArray]
  try simp only [List.set_cons_zero, List.set_cons_succ]
  refine wpAnyH_done (by kernel_rfl) ?_ _
  have hp := HPT.out w6 HB6.out
  have v0 := HK6.out.1
  have v1 := HK6.out.2
  clear x0 x1 x2 x3 HK4 HK5 HK6 HB4 HB5 HB3 HX3 HS3 hS3 HBD HOP HNM HDO HG HX HB HSV HPT HB6 KS4 KS5 KS6 hH0
  go_wp2_with fail
  refine hp.mono ?_
  rintro e w7 ⟨rfl, hr7⟩
  have HE := Lib.hid hr7
  clear hr7 hp
  go_wp2
  go_ret
  exact HE.out
set_option maxHeartbeats 6400000 in
set_option maxRecDepth 100000 in
theorem drunAdd_any (F : Nat → Prop) (X : Nat) (w : World) (dx hx : Option Addr) (dc hc : Nat) (ks : List KeyV) (ms : List SetM) (h : LayAt F w X dx dc hx hc ks ms) (hok : LayOk ks ms) (hs : Sorted ks) (hd : Dis (namesM ms)) (hn : ms.length ≤ 1000) (hT : Tab w) (m : RuleM) (s : ByteArray) (hm : m.x.needs = [s]) (ht : TxAt w m.a m.x.needs)
  (jt jn : Nat) (ht1 : jt < ms.length) (hk1 : jt < ks.length) (hn1 : jn < ms.length) (hpt : placeN (namesM ms) m.x.target = (jt : Int)) (hpn : placeN (namesM ms) s = (jn : Int)) (hfr : ms[jt].x.from_ = 0)
  (hop : m.x.op = 6) (hnum : numD 6 ms[jn].x = 2) (had : m.x.add = 1) (hmay : mayV ks[jt] ⟨ms[jt].x.val.kind, 3, ⟨#[]⟩, []⟩ = true) :
  Calls Tryz.prog 23 #[rAgg m, .pointer (some ⟨X, 0, none⟩)] w (RunRes F w X dx dc ks ((ms.map (·.x)).set jt ⟨ms[jt].x.name, ⟨ms[jt].x.val.kind, 3, ⟨#[]⟩, []⟩, 5⟩)) := by
 have HB : Hid (∀ o, Below w.heap.size w (w.alloc o)) := Lib.hid fun o => below_one w o
 have HG := Lib.hid (gets_of h hok hs hd hn ht1 hpt)
 have HG2 := Lib.hid (gets_of h hok hs hd hn hn1 hpn)
 have HNM : Hid (∀ W, Below w.heap.size w W → Calls Tryz.prog 47 #[rAgg m, .pointer (some ⟨X, 0, none⟩)] W fun e w' => ∃ y d, e = .returned (.slice (some ⟨y, 0, none⟩) 2 d) ∧ w'.ownsRow W.heap.size 3 1 (.slice (some ⟨y, 0, none⟩) 2 d) 2 [iv 2, iv 1] ∧ Below W.heap.size W w') := Lib.hid fun W hW => by
  have := dnumbers_any W X m s ms[jn].x hm (ht.below hW) (HG2.out.below hW)
  rw [hop, hnum, had] at this
  exact this
 have HPT : Hid (∀ W, Below w.heap.size w W → Calls Tryz.prog 24 #[.pointer (some ⟨X, 0, none⟩), .string m.x.target, .agg #[.int .i64 ms[jt].x.val.kind, .int .i64 3, .string ⟨#[]⟩, .slice none 0 0], .int .i64 5] W fun e w' => e = .returned (.int .i64 0) ∧ RunRes F w X dx dc ks ((ms.map (·.x)).set jt ⟨ms[jt].x.name, ⟨ms[jt].x.val.kind, 3, ⟨#[]⟩, []⟩, 5⟩) (.returned (.bool true)) w') := Lib.hid fun W hW => by
  have hp := lput_any F X W dx hx dc hc ks ms (h.below hW) hok hs hd hn m.x.target ⟨ms[jt].x.val.kind, 3, ⟨#[]⟩, []⟩ none 0 ⟨Txts.nil_ _ _, Nat.le_refl _, Nat.zero_le _, fun k h => absurd h (Nat.not_lt_zero k), (show (0 : Nat) ≤ _ from Nat.zero_le _)⟩ (Nat.zero_le _) (fun k h => absurd h (Nat.not_lt_zero k)) (show (0 : Nat) ≤ _ from Nat.zero_le _) 5 (hT.below hW)
  refine hp.mono fun e w' hr => ?_
  obtain ⟨E, he, ⟨h1, _⟩ | ⟨j, h1, h2, hj, h3⟩⟩ := hr
  ·omega
  ·obtain rfl : j = jt := by omega
   rcases h3 with ⟨h3, _⟩ | ⟨_, h3, _⟩ | ⟨h3, h4, hE, hx', hc', y, d, hl, hb⟩
   ·rw [hmay] at h3; cases h3
   ·exact absurd (by decide) h3
   ·subst hE
    exact ⟨he, _, hx', hc', _, rfl, hl, hok.set h1 h2 hmay (by decide) y d, map_set, fun b hb => by
     rcases hb with hb | hb
     ·exact .inl hb
     ·exact .inr (Nat.le_trans hW.size hb.1), (But.of_below hW).and_ hb⟩
 have HX : Hid (∀ t, Box4 (w.alloc (Obj.cells #[.string m.x.target, .slice m.a m.x.needs.length m.c, .int .i64 m.x.op, .int .i64 m.x.add] t)) w.heap.size (.string m.x.target) (.slice m.a m.x.needs.length m.c) (.int .i64 m.x.op) (.int .i64 m.x.add)) := Lib.hid fun t => box4_new w _ _ _ _ t
 have HOP : Hid (∀ W, Calls Tryz.prog 46 #[] W fun e w' => ∃ k, e = .returned (.slice (some ⟨k, 0, none⟩) 7 7) ∧ w'.cell? ⟨k, 6, none⟩ = some (.func (.func 76) #[] #[]) ∧ Below W.heap.size W w') := Lib.hid fun W => (dops_any W).mono fun _ _ hh => ⟨_, hh.1, hh.2.2.2.1, hh.2.2.2.2⟩
 have HDO : Hid (∀ W y d, W.cell? ⟨y, 0, none⟩ = some (.int .i64 2) → W.cell? ⟨y, 1, none⟩ = some (.int .i64 1) → Calls Tryz.prog 76 #[.slice (some ⟨y, 0, none⟩) 2 d] W fun e w' => e = .returned (.tuple #[.int .i64 3, .bool true]) ∧ Below W.heap.size W w') := Lib.hid fun W y d h0 h1 => dop_any (op := 6) (a := 2) (b := 1) (r := 3) (by unfold OpIs; omega) W y d h0 h1
 clear h hok hs hd hn hT hnum hmay HG2 hpt hpn ht
 unfold rAgg at HNM ⊢
 obtain ⟨⟨tg, ns, op, ad⟩, a, mc⟩ := m
 simp only at hm hop had HG HNM HPT HX ⊢
 subst hop had
 generalize ns.length = nl at HNM HX ⊢
 generalize ms[jt].x = tx at *
 obtain ⟨tnm, ⟨tk, ti, tt, tw⟩, tf⟩ := tx
 unfold GetsAt at HG
 unfold sVal at HG
 simp only at hfr HG HPT ⊢
 generalize tw.length = twn at HG
 clear hm
 have hg := HG.out _ (HB.out (Obj.cells #[.string tg, .slice a nl mc, .int .i64 6, .int .i64 1] 28))
 have HSV : Hid (∀ (W : World) (y : Option Addr) (d : Nat), Below W.heap.size W (W.alloc (Obj.cells #[.string tnm, .int .i64 tk, .int .i64 ti, .string tt, .slice y twn d, .int .i64 tf] 39)) ∧ (W.alloc (Obj.cells #[.string tnm, .int .i64 tk, .int .i64 ti, .string tt, .slice y twn d, .int .i64 tf] 39)).cell? ⟨W.heap.size, 1, none⟩ = some (.int .i64 tk)) := Lib.hid fun W y d => ⟨below_one W _, by simp⟩
 subst hfr
 go_enter Tryz.func23, Tryz.ntmps23
 go_wp2_with fail
 refine hg.mono ?_
 rintro e w2 ⟨y, d, rfl, hb2, _⟩
 obtain ⟨hbs, hs1⟩ := HSV.out w2 y d
 have HB3 := Lib.hid ((HB.out _).trans ((hb2.trans (hbs.mono hb2.size)).mono (HB.out _).size))
 have HX3 := Lib.hid ((HX.out 28).below (hb2.trans (hbs.mono hb2.size)))
 have HS3 := Lib.hid hs1
 clear hb2 hbs hs1 hg
 obtain ⟨x0, x1, x2, x3, _, _, _, _⟩ := HX3.out
 go_wp2
 generalize w2.alloc (Obj.cells #[.string tnm, .int .i64 tk, .int .i64 ti, .string tt, .slice y twn d, .int .i64 0] 39) = W3 at *
 generalize w2.heap.size = S at *
 have HBD : Hid (Below w.heap.size w W3.drew) := Lib.hid (HB3.out.trans ((below_drewN W3 1).mono HB3.out.size))
 have hS3 : W3.drew.cell? ⟨S, 1, none⟩ = some (.int .i64 tk) := HS3.out
 refine wp_region_held_drew (S := (fun W => W.cell? ⟨w.heap.size, 0, none⟩ = some (.string tg) ∧ W.cell? ⟨w.heap.size, 1, none⟩ = some (.slice a nl mc) ∧ W.cell? ⟨w.heap.size, 2, none⟩ = some (.int .i64 6) ∧ W.cell? ⟨w.heap.size, 3, none⟩ = some (.int .i64 1))) (by kernel_rfl) ⟨x0, x1, x2, x3⟩ (fun hH0 => ?_)
 refine' wpAnyH_take (i := 1) rfl (by kernel_rfl) (by kernel_rfl) (by kernel_rfl) (fun _ _ _ h => h) (Or.inl ⟨by rfl, ?hy1⟩) (by assumption) ?rest1
 case hy1 => (intro w hSw; (try dsimp only at hSw); go_simp; (try with_reducible rfl))
 try simp only [Act.put]
 try simp only [List.setIfInBounds_toArray]
 try simp only [List.set_cons_zero, List.set_cons_succ]
 refine' wpAnyH_take (i := 2) rfl (by kernel_rfl) (by kernel_rfl) (by kernel_rfl) (fun _ _ _ h => h) (Or.inl ⟨by rfl, ?hy2⟩) (by assumption) ?rest2
 case hy2 => (intro w hSw; (try dsimp only at hSw); go_simp; (try with_reducible rfl))
 try simp only [Act.put]
 try simp only [List.setIfInBounds_toArray]
 try simp only [List.set_cons_zero, List.set_cons_succ]
 refine' wpAnyH_take (i := 5) rfl (by kernel_rfl) (by kernel_rfl) (by kernel_rfl) (fun _ _ _ h => h) (Or.inl ⟨by rfl, ?hy3⟩) (by assumption) ?rest3
 case hy3 => (intro w hSw; (try dsimp only at hSw); go_simp; (try with_reducible rfl))
 try simp only [Act.put]
 try simp only [List.setIfInBounds_toArray]
 try simp only [List.set_cons_zero, List.set_cons_succ]
 refine' wpAnyH_take (i := 6) rfl (by kernel_rfl) (by kernel_rfl) (by kernel_rfl) (fun _ _ _ h => h) (Or.inl ⟨by rfl, ?hy4⟩) (by assumption) ?rest4
 case hy4 => (intro w hSw; (try dsimp only at hSw); go_simp; (try with_reducible rfl))
 try simp only [Act.put]
 try simp only [List.setIfInBounds_toArray]
 try simp only [List.set_cons_zero, List.set_cons_succ]
 refine wpAnyH_ready (rs := [0]) (by kernel_rfl) (by simp) ?_
 refine AllReadyH.cons rfl (fun K hK => ?_) AllReadyH.nil
 go_simp
 (with_reducible refine (HOP.out _).mono ?_)
 rintro e w4 ⟨k, rfl, hf4, hb4⟩
 have ck : ∀ {b o : Nat} {v : Value}, W3.drew.cell? ⟨b, o, none⟩ = some v → w4.cell? ⟨b, o, none⟩ = some v := fun {b o v} h => (hb4.cell (p := ⟨b, o, none⟩) (lt_of_cell h)).trans h
 have KS4 := Lib.hid (And.intro (ck x0) (And.intro (ck x1) (And.intro (ck x2) (ck x3))))
 have HK4 := Lib.hid (And.intro hf4 (ck hS3))
 have HB4 := Lib.hid (HBD.out.trans (hb4.mono HBD.out.size))
 clear hb4 ck hf4
 dsimp only
 refine hK.out _ _ ?_ (fun hH1 => ?_)
 ·(try dsimp only); (first | exact ⟨x0, x1, x2, x3⟩ | exact KS4.out | exact KS5.out | exact KS6.out)
 clear hK K
 try simp only [Act.put]
 try simp only [List.setIfInBounds_toArray]
 try simp only [List.set_cons_zero, List.set_cons_succ]
 refine' wpAnyH_take (i := 3) rfl (by kernel_rfl) (by kernel_rfl) (by kernel_rfl) (fun _ _ _ h => h) (Or.inl ⟨by rfl, ?hy5⟩) (by assumption) ?rest5
 case hy5 => (intro w hSw; (try dsimp only at hSw); go_simp; (try with_reducible rfl))
 try simp only [Act.put]
 try simp only [List.setIfInBounds_toArray]
 try simp only [List.set_cons_zero, List.set_cons_succ]
 refine wpAnyH_ready (rs := [4, 7]) (by kernel_rfl) (by simp) ?_
 refine AllReadyH.cons rfl (fun K hK => ?_) (AllReadyH.cons rfl (fun K hK => ?_) AllReadyH.nil)
 ·skip
  have hff := HK4.out.1
  go_simp
  clear hff
  refine hK.out _ _ ?_ (fun hH2 => ?_)
  ·(try dsimp only); (first | exact ⟨x0, x1, x2, x3⟩ | exact KS4.out | exact KS5.out | exact KS6.out)
  clear hK K
  try simp only [Act.put]
  try simp only [List.setIfInBounds_toArray]
  try simp only [List.set_cons_zero, List.set_cons_succ]
  refine wpAnyH_ready (rs := [7]) (by kernel_rfl) (by simp) ?_
  refine AllReadyH.cons rfl (fun K hK => ?_) AllReadyH.nil
  go_simp
  (with_reducible refine (HNM.out _ HB4.out).mono ?_)
  rintro e w5 ⟨z, f, rfl, hr5, hb5⟩
  have ck : ∀ {b o : Nat} {v : Value}, w4.cell? ⟨b, o, none⟩ = some v → w5.cell? ⟨b, o, none⟩ = some v := fun {b o v} h => (hb5.cell (p := ⟨b, o, none⟩) (lt_of_cell h)).trans h
  have KS5 := Lib.hid (And.intro (ck KS4.out.1) (And.intro (ck KS4.out.2.1) (And.intro (ck KS4.out.2.2.1) (ck KS4.out.2.2.2))))
  have HK5 := Lib.hid (And.intro (hr5.cellAt 0 (by decide)) (And.intro (hr5.cellAt 1 (by decide)) (And.intro (ck HK4.out.2) (ck HK4.out.1))))
  have HB5 := Lib.hid (HB4.out.trans (hb5.mono HB4.out.size))
  clear hr5 hb5 ck
  dsimp only
  refine hK.out _ _ ?_ (fun hH3 => ?_)
  ·(try dsimp only); (first | exact ⟨x0, x1, x2, x3⟩ | exact KS4.out | exact KS5.out | exact KS6.out)
  clear hK K
  try simp only [Act.put]
  try simp only [List.setIfInBounds_toArray]
  try simp only [List.set_cons_zero, List.set_cons_succ]
  refine wpAnyH_ready (rs := [8]) (by kernel_rfl) (by simp) ?_
  refine AllReadyH.cons rfl (fun K hK => ?_) AllReadyH.nil
  go_simp
  (with_reducible refine (HDO.out _ _ _ HK5.out.1 HK5.out.2.1).mono ?_)
  rintro e w6 ⟨rfl, hb6⟩
  have ck : ∀ {b o : Nat} {v : Value}, w5.cell? ⟨b, o, none⟩ = some v → w6.cell? ⟨b, o, none⟩ = some v := fun {b o v} h => (hb6.cell (p := ⟨b, o, none⟩) (lt_of_cell h)).trans h
  have KS6 := Lib.hid (And.intro (ck KS5.out.1) (And.intro (ck KS5.out.2.1) (And.intro (ck KS5.out.2.2.1) (ck KS5.out.2.2.2))))
  have HK6 := Lib.hid (And.intro (ck KS5.out.1) (ck HK5.out.2.2.1))
  have HB6 := Lib.hid (HB5.out.trans (hb6.mono HB5.out.size))
  clear hb6 ck
  dsimp only
  refine hK.out _ _ ?_ (fun hH4 => ?_)
  ·(try dsimp only); (first | exact ⟨x0, x1, x2, x3⟩ | exact KS4.out | exact KS5.out | exact KS6.out)
  clear hK K
  try simp only [Act.put]
  try simp only [List.setIfInBounds_toArray]
  try simp only [List.set_cons_zero, List.set_cons_succ]
  refine' wpAnyH_take (i := 9) rfl (by kernel_rfl) (by kernel_rfl) (by kernel_rfl) (fun _ _ _ h => h) (Or.inl ⟨by rfl, ?hy6⟩) (by assumption) ?rest6
  case hy6 => (intro w hSw; (try dsimp only at hSw); go_simp; (try with_reducible rfl))
  try simp only [Act.put]
  try simp only [List.setIfInBounds_toArray]
  try simp only [List.set_cons_zero, List.set_cons_succ]
  refine' wpAnyH_take (i := 10) rfl (by kernel_rfl) (by kernel_rfl) (by kernel_rfl) (fun _ _ _ h => h) (Or.inl ⟨by rfl, ?hy7⟩) (by assumption) ?rest7
  case hy7 => (intro w hSw; (try dsimp only at hSw); go_simp; (try with_reducible rfl))
  try simp only [Act.put]
  try simp only [List.setIfInBounds_toArray]
  try simp only [List.set_cons_zero, List.set_cons_succ]
  refine' wpAnyH_take (i := 11) rfl (by kernel_rfl) (by kernel_rfl) (by kernel_rfl) (fun _ _ _ h => h) (Or.inl ⟨by rfl, ?hy8⟩) (by assumption) ?rest8
  case hy8 => (intro w hSw; (try dsimp only at hSw); go_simp; (try with_reducible rfl))
  try simp only [Act.put]
  try simp only [List.setIfInBounds_toArray]
  try simp only [List.set_cons_zero, List.set_cons_succ]
  refine' wpAnyH_take (i := 12) rfl (by kernel_rfl) (by kernel_rfl) (by kernel_rfl) (fun _ _ _ h => h) (Or.inl ⟨by rfl, ?hy9⟩) (by assumption) ?rest9
  case hy9 => (intro w hSw; (try dsimp only at hSw); go_simp; (try with_reducible rfl))
  try simp only [Act.put]
  try simp only [List.setIfInBounds_toArray]
  try simp only [List.set_cons_zero, List.set_cons_succ]
  refine' wpAnyH_take (i := 13) rfl (by kernel_rfl) (by kernel_rfl) (by kernel_rfl) (fun _ _ _ h => h) (Or.inl ⟨by rfl, ?hy10⟩) (by assumption) ?rest10
  case hy10 => (intro w hSw; (try dsimp only at hSw); go_simp; (try with_reducible rfl))
  try simp only [Act.put]
  try simp only [List.setIfInBounds_toArray]
  try simp only [List.set_cons_zero, List.set_cons_succ]
  refine wpAnyH_done (by kernel_rfl) ?_ _
  have hp := HPT.out w6 HB6.out
  have v0 := HK6.out.1
  have v1 := HK6.out.2
  clear x0 x1 x2 x3 HK4 HK5 HK6 HB4 HB5 HB3 HX3 HS3 hS3 HBD HOP HNM HDO HG HX HB HSV HPT HB6 KS4 KS5 KS6 hH0
  go_wp2_with fail
  refine hp.mono ?_
  rintro e w7 ⟨rfl, hr7⟩
  have HE := Lib.hid hr7
  clear hr7 hp
  go_wp2
  go_ret
  exact HE.out
 ·skip
  go_simp
  (with_reducible refine (HNM.out _ HB4.out).mono ?_)
  rintro e w5 ⟨z, f, rfl, hr5, hb5⟩
  have ck : ∀ {b o : Nat} {v : Value}, w4.cell? ⟨b, o, none⟩ = some v → w5.cell? ⟨b, o, none⟩ = some v := fun {b o v} h => (hb5.cell (p := ⟨b, o, none⟩) (lt_of_cell h)).trans h
  have KS5 := Lib.hid (And.intro (ck KS4.out.1) (And.intro (ck KS4.out.2.1) (And.intro (ck KS4.out.2.2.1) (ck KS4.out.2.2.2))))
  have HK5 := Lib.hid (And.intro (hr5.cellAt 0 (by decide)) (And.intro (hr5.cellAt 1 (by decide)) (And.intro (ck HK4.out.2) (ck HK4.out.1))))
  have HB5 := Lib.hid (HB4.out.trans (hb5.mono HB4.out.size))
  clear hr5 hb5 ck
  dsimp only
  refine hK.out _ _ ?_ (fun hH5 => ?_)
  ·(try dsimp only); (first | exact ⟨x0, x1, x2, x3⟩ | exact KS4.out | exact KS5.out | exact KS6.out)
  clear hK K
  try simp only [Act.put]
  try simp only [List.setIfInBounds_toArray]
  try simp only [List.set_cons_zero, List.set_cons_succ]
  refine wpAnyH_ready (rs := [4]) (by kernel_rfl) (by simp) ?_
  refine AllReadyH.cons rfl (fun K hK => ?_) AllReadyH.nil
  have hff := HK5.out.2.2.2
  go_simp
  clear hff
  refine hK.out _ _ ?_ (fun hH6 => ?_)
  ·(try dsimp only); (first | exact ⟨x0, x1, x2, x3⟩ | exact KS4.out | exact KS5.out | exact KS6.out)
  clear hK K
  try simp only [Act.put]
  try simp only [List.setIfInBounds_toArray]
  try simp only [List.set_cons_zero, List.set_cons_succ]
  refine wpAnyH_ready (rs := [8]) (by kernel_rfl) (by simp) ?_
  refine AllReadyH.cons rfl (fun K hK => ?_) AllReadyH.nil
  go_simp
  (with_reducible refine (HDO.out _ _ _ HK5.out.1 HK5.out.2.1).mono ?_)
  rintro e w6 ⟨rfl, hb6⟩
  have ck : ∀ {b o : Nat} {v : Value}, w5.cell? ⟨b, o, none⟩ = some v → w6.cell? ⟨b, o, none⟩ = some v := fun {b o v} h => (hb6.cell (p := ⟨b, o, none⟩) (lt_of_cell h)).trans h
  have KS6 := Lib.hid (And.intro (ck KS5.out.1) (And.intro (ck KS5.out.2.1) (And.intro (ck KS5.out.2.2.1) (ck KS5.out.2.2.2))))
  have HK6 := Lib.hid (And.intro (ck KS5.out.1) (ck HK5.out.2.2.1))
  have HB6 := Lib.hid (HB5.out.trans (hb6.mono HB5.out.size))
  clear hb6 ck
  dsimp only
  refine hK.out _ _ ?_ (fun hH7 => ?_)
  ·(try dsimp only); (first | exact ⟨x0, x1, x2, x3⟩ | exact KS4.out | exact KS5.out | exact KS6.out)
  clear hK K
  try simp only [Act.put]
  try simp only [List.setIfInBounds_toArray]
  try simp only [List.set_cons_zero, List.set_cons_succ]
  refine' wpAnyH_take (i := 9) rfl (by kernel_rfl) (by kernel_rfl) (by kernel_rfl) (fun _ _ _ h => h) (Or.inl ⟨by rfl, ?hy11⟩) (by assumption) ?rest11
  case hy11 => (intro w hSw; (try dsimp only at hSw); go_simp; (try with_reducible rfl))
  try simp only [Act.put]
  try simp only [List.setIfInBounds_toArray]
  try simp only [List.set_cons_zero, List.set_cons_succ]
  refine' wpAnyH_take (i := 10) rfl (by kernel_rfl) (by kernel_rfl) (by kernel_rfl) (fun _ _ _ h => h) (Or.inl ⟨by rfl, ?hy12⟩) (by assumption) ?rest12
  case hy12 => (intro w hSw; (try dsimp only at hSw); go_simp; (try with_reducible rfl))
  try simp only [Act.put]
  try simp only [List.setIfInBounds_toArray]
  try simp only [List.set_cons_zero, List.set_cons_succ]
  refine' wpAnyH_take (i := 11) rfl (by kernel_rfl) (by kernel_rfl) (by kernel_rfl) (fun _ _ _ h => h) (Or.inl ⟨by rfl, ?hy13⟩) (by assumption) ?rest13
  case hy13 => (intro w hSw; (try dsimp only at hSw); go_simp; (try with_reducible rfl))
  try simp only [Act.put]
  try simp only [List.setIfInBounds_toArray]
  try simp only [List.set_cons_zero, List.set_cons_succ]
  refine' wpAnyH_take (i := 12) rfl (by kernel_rfl) (by kernel_rfl) (by kernel_rfl) (fun _ _ _ h => h) (Or.inl ⟨by rfl, ?hy14⟩) (by assumption) ?rest14
  case hy14 => (intro w hSw; (try dsimp only at hSw); go_simp; (try with_reducible rfl))
  try simp only [Act.put]
  try simp only [List.setIfInBounds_toArray]
  try simp only [List.set_cons_zero, List.set_cons_succ]
  refine' wpAnyH_take (i := 13) rfl (by kernel_rfl) (by kernel_rfl) (by kernel_rfl) (fun _ _ _ h => h) (Or.inl ⟨by rfl, ?hy15⟩) (by assumption) ?rest15
  case hy15 => (intro w hSw; (try dsimp only at hSw); go_simp; (try with_reducible rfl))
  try simp only [Act.put]
  try simp only [List.setIfInBounds_toArray]
  try simp only [List.set_cons_zero, List.set_cons_succ]
  refine wpAnyH_done (by kernel_rfl) ?_ _
  have hp := HPT.out w6 HB6.out
  have v0 := HK6.out.1
  have v1 := HK6.out.2
  clear x0 x1 x2 x3 HK4 HK5 HK6 HB4 HB5 HB3 HX3 HS3 hS3 HBD HOP HNM HDO HG HX HB HSV HPT HB6 KS4 KS5 KS6 hH0
  go_wp2_with fail
  refine hp.mono ?_
  rintro e w7 ⟨rfl, hr7⟩
  have HE := Lib.hid hr7
  clear hr7 hp
  go_wp2
  go_ret
  exact HE.out
end Go.Proofs.YtlcgfdijohgnpaaGreatDoor
