/-
  LayMade, KeyRefs.
-/
import Derived.Test.YtopghlnoklajkaaGreatDoorQLayMerge
import Derived.Test.YtopghlnoklajkaaGreatDoorQValueRefWithin
import Derived.Test.YtopghlnoklajkaaGreatDoorQKeyFinds
import Derived.Laws.StructEq
namespace Go.Proofs.YtopghlnoklajkaaGreatDoor
open Go.ChangeShapes Go.WideShapes Go.ChangeAt Go.RowKit

theorem results_tmp4 {fn : Func} {t u v x : Tmp} (h : fn.results = #[.tmp t, .tmp u, .tmp v, .tmp x]) (tmps : Array Value) (P : Program) (w : World) :
    (results fn tmps).run P w = .ok (.tuple #[tmps.getD t undef, tmps.getD u undef, tmps.getD v undef, tmps.getD x undef]) w := by
  simp [results, h]
theorem map_at {A B C : Type} {f : A → C} {g : B → C} {a : List A} {b : List B} (h : a.map f = b.map g) (i : Nat) (h1 : i < a.length) (h2 : i < b.length) : f a[i] = g b[i] := by
  have h3 : (a.map f)[i]? = (b.map g)[i]? := by rw [h]
  simpa [h1, h2] using h3
theorem made_ok {ks : List KeyV} {ms : List SetM} (hG : GoodK ks) (h : ms.map (·.x) = ks.map dfltS) : LayOk ks ms := by
  have hl : ms.length = ks.length := by simpa using congrArg List.length h
  refine ⟨hl, fun i h1 h2 => ?_, fun i h1 h2 => ?_, fun m hm => ?_⟩
  · rw [map_at h i h1 h2]; rfl
  · rw [map_at h i h1 h2]
    have hd := hG.dflt _ (List.getElem_mem h2)
    unfold dfltK at hd
    simp only [Bool.and_eq_true, decide_eq_true_eq] at hd
    obtain ⟨r1, r2, _⟩ := read_right hd.1
    unfold mayV dfltS
    simp [r1, r2, hd.2]
  · have : m.x ∈ ks.map dfltS := by rw [← h]; exact List.mem_map_of_mem hm
    obtain ⟨k, _, e⟩ := List.mem_map.1 this
    rw [← e]
    exact ⟨Int.le_refl (0 : Int), show (0 : Int) ≤ 5 by decide⟩
set_option maxRecDepth 100000 in
theorem lorigins_none (w : World) : Calls Tryz.prog 48 #[.slice none 0 0] w fun e w' => e = .returned (.bool true) ∧ w = w' := by
  go_enter Tryz.func48, Tryz.ntmps48
  go_wp2
  go_loopw [8] (fun i wr => i = .int .i64 0 ∧ w = wr) (fun _ _ => 0)
  case atStart => exact ⟨rfl, rfl⟩
  case round =>
    obtain ⟨rfl, rfl⟩ := hrel
    go_wp2
    go_ret
    exact ⟨rfl, rfl⟩
/-- What Merge of no lists answers. -/
def MgRes (ks : List KeyV) (w : World) (e : Ending) (w' : World) : Prop := ∃ dx dc hx hc ms, e = .returned (.tuple #[.pointer (some ⟨w.heap.size, 0, none⟩), .int .i64 0, .int .i64 0, .int .i64 0]) ∧ LayAt (fun b => w.heap.size ≤ b ∧ b < w'.heap.size ∧ b ≠ w.heap.size) w' w.heap.size dx dc hx hc ks ms ∧ LayOk ks ms ∧ ms.map (·.x) = ks.map dfltS ∧ Below w.heap.size w w'
set_option maxHeartbeats 1600000 in
set_option maxRecDepth 100000 in
theorem lmerge_any (ks : List KeyV) (S : Nat) (sx : Option Addr) (sc : Nat) (w : World) (hS : SetAt w S sx sc ks) (hG : GoodK ks) (hT : Tab w) (hU : Units w) (hM : MaxI w) :
    Calls Tryz.prog 23 #[.pointer (some ⟨S, 0, none⟩), .slice none 0 0, .slice none 0 0] w (MgRes ks w) := by
  have HD := Lib.hid (ldefaults_any ks S sx sc w hS hG hT hU hM)
  have HO := Lib.hid (lorigins_none w)
  have HF : Hid (∀ dv hv ms w2, (∃ B, DfIn w w2 w.heap.size B dv hv ks ms) → ms.map (·.x) = ks.map dfltS → MgRes ks w (.returned (.tuple #[.pointer (some ⟨w.heap.size, 0, none⟩), .int .i64 0, .int .i64 0, .int .i64 0])) w2) := Lib.hid fun dv hv ms w2 h1 h2 => by
    obtain ⟨B, h1⟩ := h1
    have ho := made_ok hG h2
    obtain ⟨dx, dc, hx, hc, h3, _, _⟩ := h1.done ho.len
    exact ⟨dx, dc, hx, hc, ms, rfl, h3, ho, h2, h1.below⟩
  clear hS hG hT hU hM
  go_enter Tryz.func23, Tryz.ntmps23
  go_wp2_with fail
  refine HO.out.mono ?_
  rintro e w1 ⟨rfl, rfl⟩
  go_wp2_with fail
  refine HD.out.mono ?_
  rintro e w2 ⟨dv, hv, ms, rfl, h1, h2⟩
  have HE := Lib.hid (HF.out dv hv ms w2 h1 h2)
  clear h1 h2 HD HO HF
  go_wp2
  go_loopw [33] (fun i wr => i = .int .i64 0 ∧ w2 = wr) (fun _ _ => 0)
  case atStart => exact ⟨rfl, rfl⟩
  case round =>
    obtain ⟨rfl, rfl⟩ := hrel
    go_wp2
    (try simp only [Exit.inBlock, Exit.then])
    refine bodyPost_ret (results_tmp4 rfl _ _ _) rfl ?_
    exact HE.out
end Go.Proofs.YtopghlnoklajkaaGreatDoor

namespace Go.Proofs.YtopghlnoklajkaaGreatDoor
open Go.ChangeShapes Go.WideShapes Go.ChangeAt Go.RowKit

set_option maxHeartbeats 1600000 in
set_option maxRecDepth 100000 in
theorem refFind_any (xs : List KeyV) (nm : ByteArray) (S : Nat) (x : Option Addr) (c : Nat) (w : World) (h : SetAt w S x c xs) (hn : xs.length ≤ 1000000) :
    Calls Tryz.prog 69 #[.pointer (some ⟨S, 0, none⟩), .string nm] w fun e w' => e = .returned (oAgg (findK xs nm)) ∧ Below w.heap.size w w' := by
  have HS := Lib.hid h
  have HZ : Hid (∀ t, Box6 (w.alloc (Obj.cells #[.string ⟨#[]⟩, .int .i64 0, .string ⟨#[]⟩, .int .i64 0, .int .i64 0, .string ⟨#[]⟩] t)) w.heap.size kZero ∧ Below w.heap.size w (w.alloc (Obj.cells #[.string ⟨#[]⟩, .int .i64 0, .string ⟨#[]⟩, .int .i64 0, .int .i64 0, .string ⟨#[]⟩] t))) := Lib.hid fun t => ⟨box6_new w kZero t, below_one w _⟩
  have HD : Hid (findK (xs.drop 0) nm = findK xs nm) := Lib.hid rfl
  obtain ⟨r, hr⟩ : ∃ r, findK xs nm = r := ⟨_, rfl⟩
  rw [hr] at HD ⊢
  obtain ⟨n, hn'⟩ : ∃ n, xs.length = n := ⟨_, rfl⟩
  have HN := Lib.hid hn'
  rw [hn'] at hn
  clear h hr
  go_enter Tryz.func69, Tryz.ntmps69
  go_wp2
  go_loopw [6] (fun i wr => ∃ t : Nat, i = .int .i64 t ∧ t ≤ n ∧ Hid (Below w.heap.size w wr ∧ Box6 wr w.heap.size kZero ∧ findK (xs.drop t) nm = r)) (fun i _ => n - (intOf i).toNat)
  case atStart => exact ⟨0, rfl, by omega, Lib.hid ⟨(HZ.out _).2, (HZ.out _).1, HD.out⟩⟩
  case round =>
    clear HD HZ
    obtain ⟨t, rfl, ht, HK⟩ := hrel
    have hcell := (HS.out.below HK.out.1).cell
    rw [hn'] at hcell
    by_cases hlt : t < n
    · have htx : t < xs.length := by rw [HN.out]; exact hlt
      obtain ⟨b, hxe, hbl, c0, c1, c2, c3, c4, c5⟩ := (HS.out.keys.below HK.out.1) t htx
      have hd := find_drop (nm := nm) htx
      generalize xs[t] = k at c0 c1 c2 c3 c4 c5 hd
      obtain ⟨kn, kk, kd, kl, km, kt⟩ := k
      simp only at c0 c1 c2 c3 c4 c5
      have HE := Lib.hid (HK.out.2.2.symm.trans hd)
      have q1 : (0 : Int) ≤ t := by omega
      have q2 : (t : Int) < n := by omega
      subst hxe
      clear hd htx hn'
      by_cases hl : kn = nm
      · have HR : Hid (r = some ⟨kn, kk, kd, kl, km, kt⟩) := Lib.hid (by
          have h1 := HE.out
          rw [if_pos (decide_eq_true hl)] at h1
          exact h1)
        subst hl
        clear HE
        have HS6 : Hid (Box6 (set6 wr w.heap.size ⟨kn, kk, kd, kl, km, kt⟩) w.heap.size ⟨kn, kk, kd, kl, km, kt⟩ ∧ Below w.heap.size w (set6 wr w.heap.size ⟨kn, kk, kd, kl, km, kt⟩)) := Lib.hid ⟨HK.out.2.1.set6 _, below_set6 HK.out.1 (Nat.le_refl _) _⟩
        obtain ⟨b0, b1, b2, b3, b4, b5, bf⟩ := HK.out.2.1
        have f0 := bf 0 (by decide)
        have f1 := bf 1 (by decide)
        have f2 := bf 2 (by decide)
        have f3 := bf 3 (by decide)
        have f4 := bf 4 (by decide)
        have f5 := bf 5 (by decide)
        obtain ⟨g0, g1, g2, g3, g4, g5, _⟩ := HS6.out.1
        have HF := Lib.hid HS6.out.2
        unfold kZero at b0 b1 b2 b3 b4 b5
        unfold set6 at g0 g1 g2 g3 g4 g5 HF
        simp only at b0 b1 b2 b3 b4 b5 g0 g1 g2 g3 g4 g5 HF
        clear bf HS6
        go_wp2
        exact bodyPost_ret (v := .tuple #[.agg #[.string kn, .int .i64 kk, .string kd, .int .i64 kl, .int .i64 km, .string kt], .bool true]) (by simp [results, Tryz.results69, go_sem, g0, g1, g2, g3, g4, g5]) rfl ⟨ret_val (by rw [HR.out]; rfl), HF.out⟩
      · have HN2 : Hid (findK (xs.drop (t + 1)) nm = r) := Lib.hid (by
          have h1 := HE.out
          rw [if_neg (by rw [decide_eq_true_eq]; exact hl)] at h1
          exact h1.symm)
        have d3 : (kn.toList == nm.toList) = false := beq_eq_false_iff_ne.2 (fun h => hl (toList_inj h))
        clear HE hl
        go_wp2
        go_roundw
        case rel => exact ⟨t + 1, by go_num, by omega, Lib.hid ⟨HK.out.1, HK.out.2.1, HN2.out⟩⟩
        case measure => simp [intOf]; omega
    · have HR : Hid (r = none) := Lib.hid (by
        have h1 := HK.out.2.2
        rw [List.drop_eq_nil_of_le (by rw [HN.out]; omega)] at h1
        exact h1.symm)
      have q2 : ¬ (t : Int) < n := by omega
      have HS6 : Hid (Box6 (set6 wr w.heap.size kZero) w.heap.size kZero ∧ Below w.heap.size w (set6 wr w.heap.size kZero)) := Lib.hid ⟨HK.out.2.1.set6 _, below_set6 HK.out.1 (Nat.le_refl _) _⟩
      obtain ⟨b0, b1, b2, b3, b4, b5, bf⟩ := HK.out.2.1
      have f0 := bf 0 (by decide)
      have f1 := bf 1 (by decide)
      have f2 := bf 2 (by decide)
      have f3 := bf 3 (by decide)
      have f4 := bf 4 (by decide)
      have f5 := bf 5 (by decide)
      obtain ⟨g0, g1, g2, g3, g4, g5, _⟩ := HS6.out.1
      have HF := Lib.hid HS6.out.2
      unfold kZero at b0 b1 b2 b3 b4 b5
      unfold set6 kZero at g0 g1 g2 g3 g4 g5 HF
      simp only at b0 b1 b2 b3 b4 b5 g0 g1 g2 g3 g4 g5 HF
      clear bf HS6 hn'
      go_wp2
      exact bodyPost_ret (v := .tuple #[.agg #[.string ⟨#[]⟩, .int .i64 0, .string ⟨#[]⟩, .int .i64 0, .int .i64 0, .string ⟨#[]⟩], .bool false]) (by simp [results, Tryz.results69, go_sem, g0, g1, g2, g3, g4, g5]) rfl ⟨ret_val (by rw [HR.out]; rfl), HF.out⟩
theorem letter_none (xs : List KeyV) : letterK xs ⟨#[]⟩ = none := by
  unfold letterK
  rw [List.find?_eq_none]
  intro k _
  unfold letterB
  by_cases hk : k.letter = ⟨#[]⟩
  · rw [decide_eq_true hk]; simp
  · rw [decide_eq_false hk]; simp
set_option maxHeartbeats 1600000 in
set_option maxRecDepth 100000 in
theorem refLetter_any (xs : List KeyV) (nm : ByteArray) (S : Nat) (x : Option Addr) (c : Nat) (w : World) (h : SetAt w S x c xs) (hn : xs.length ≤ 1000000) :
    Calls Tryz.prog 70 #[.pointer (some ⟨S, 0, none⟩), .string nm] w fun e w' => e = .returned (oAgg (letterK xs nm)) ∧ Below w.heap.size w w' := by
  have HS := Lib.hid h
  have HZ : Hid (∀ t, Box6 (w.alloc (Obj.cells #[.string ⟨#[]⟩, .int .i64 0, .string ⟨#[]⟩, .int .i64 0, .int .i64 0, .string ⟨#[]⟩] t)) w.heap.size kZero ∧ Below w.heap.size w (w.alloc (Obj.cells #[.string ⟨#[]⟩, .int .i64 0, .string ⟨#[]⟩, .int .i64 0, .int .i64 0, .string ⟨#[]⟩] t))) := Lib.hid fun t => ⟨box6_new w kZero t, below_one w _⟩
  have HD : Hid (letterK (xs.drop 0) nm = letterK xs nm) := Lib.hid rfl
  obtain ⟨r, hr⟩ : ∃ r, letterK xs nm = r := ⟨_, rfl⟩
  have HRR := Lib.hid hr
  rw [hr] at HD ⊢
  obtain ⟨n, hn'⟩ : ∃ n, xs.length = n := ⟨_, rfl⟩
  have HN := Lib.hid hn'
  rw [hn'] at hn
  clear h hr
  go_enter Tryz.func70, Tryz.ntmps70
  go_wp2
  go_loopw [6] (fun i wr => ∃ t : Nat, i = .int .i64 t ∧ t ≤ n ∧ Hid (Below w.heap.size w wr ∧ Box6 wr w.heap.size kZero ∧ letterK (xs.drop t) nm = r)) (fun i _ => n - (intOf i).toNat)
  case atStart => exact ⟨0, rfl, by omega, Lib.hid ⟨(HZ.out _).2, (HZ.out _).1, HD.out⟩⟩
  case round =>
    clear HD HZ
    obtain ⟨t, rfl, ht, HK⟩ := hrel
    have hcell := (HS.out.below HK.out.1).cell
    rw [hn'] at hcell
    by_cases hem : nm = ⟨#[]⟩
    · have HR : Hid (r = none) := Lib.hid (by rw [← HRR.out, hem]; exact letter_none xs)
      subst hem
      by_cases hlt : t < n
      · have q1 : (t : Int) < n := by omega
        have HS6 : Hid (Box6 (set6 wr w.heap.size kZero) w.heap.size kZero ∧ Below w.heap.size w (set6 wr w.heap.size kZero)) := Lib.hid ⟨HK.out.2.1.set6 _, below_set6 HK.out.1 (Nat.le_refl _) _⟩
        obtain ⟨b0, b1, b2, b3, b4, b5, bf⟩ := HK.out.2.1
        have f0 := bf 0 (by decide)
        have f1 := bf 1 (by decide)
        have f2 := bf 2 (by decide)
        have f3 := bf 3 (by decide)
        have f4 := bf 4 (by decide)
        have f5 := bf 5 (by decide)
        obtain ⟨g0, g1, g2, g3, g4, g5, _⟩ := HS6.out.1
        have HF := Lib.hid HS6.out.2
        unfold kZero at b0 b1 b2 b3 b4 b5
        unfold set6 kZero at g0 g1 g2 g3 g4 g5 HF
        simp only at b0 b1 b2 b3 b4 b5 g0 g1 g2 g3 g4 g5 HF
        clear bf HS6 hn'
        go_wp2
        exact bodyPost_ret (v := .tuple #[.agg #[.string ⟨#[]⟩, .int .i64 0, .string ⟨#[]⟩, .int .i64 0, .int .i64 0, .string ⟨#[]⟩], .bool false]) (by simp [results, Tryz.results70, go_sem, g0, g1, g2, g3, g4, g5]) rfl ⟨ret_val (by rw [HR.out]; rfl), HF.out⟩
      · have q2 : ¬ (t : Int) < n := by omega
        have HS6 : Hid (Box6 (set6 wr w.heap.size kZero) w.heap.size kZero ∧ Below w.heap.size w (set6 wr w.heap.size kZero)) := Lib.hid ⟨HK.out.2.1.set6 _, below_set6 HK.out.1 (Nat.le_refl _) _⟩
        obtain ⟨b0, b1, b2, b3, b4, b5, bf⟩ := HK.out.2.1
        have f0 := bf 0 (by decide)
        have f1 := bf 1 (by decide)
        have f2 := bf 2 (by decide)
        have f3 := bf 3 (by decide)
        have f4 := bf 4 (by decide)
        have f5 := bf 5 (by decide)
        obtain ⟨g0, g1, g2, g3, g4, g5, _⟩ := HS6.out.1
        have HF := Lib.hid HS6.out.2
        unfold kZero at b0 b1 b2 b3 b4 b5
        unfold set6 kZero at g0 g1 g2 g3 g4 g5 HF
        simp only at b0 b1 b2 b3 b4 b5 g0 g1 g2 g3 g4 g5 HF
        clear bf HS6 hn'
        go_wp2
        exact bodyPost_ret (v := .tuple #[.agg #[.string ⟨#[]⟩, .int .i64 0, .string ⟨#[]⟩, .int .i64 0, .int .i64 0, .string ⟨#[]⟩], .bool false]) (by simp [results, Tryz.results70, go_sem, g0, g1, g2, g3, g4, g5]) rfl ⟨ret_val (by rw [HR.out]; rfl), HF.out⟩
    have d0 : nm.toList.isEmpty = false := emp_false' (fun h => hem (by rw [← mkB_self nm, h]; rfl))
    have HEM := Lib.hid hem
    clear hem
    by_cases hlt : t < n
    · have htx : t < xs.length := by rw [HN.out]; exact hlt
      obtain ⟨b, hxe, hbl, c0, c1, c2, c3, c4, c5⟩ := (HS.out.keys.below HK.out.1) t htx
      have hd := letter_drop (l := nm) htx
      generalize xs[t] = k at c0 c1 c2 c3 c4 c5 hd
      obtain ⟨kn, kk, kd, kl, km, kt⟩ := k
      simp only at c0 c1 c2 c3 c4 c5
      have HE := Lib.hid (HK.out.2.2.symm.trans hd)
      have q1 : (0 : Int) ≤ t := by omega
      have q2 : (t : Int) < n := by omega
      subst hxe
      clear hd htx hn'
      by_cases hl : kt = nm
      · have HR : Hid (r = some ⟨kn, kk, kd, kl, km, kt⟩) := Lib.hid (by
          have h1 := HE.out
          rw [show letterB nm ⟨kn, kk, kd, kl, km, kt⟩ = true by unfold letterB; rw [decide_eq_false (by show ¬ kt = _; rw [hl]; exact HEM.out), decide_eq_true hl]; rfl] at h1
          exact h1)
        subst hl
        clear HE
        have HS6 : Hid (Box6 (set6 wr w.heap.size ⟨kn, kk, kd, kl, km, kt⟩) w.heap.size ⟨kn, kk, kd, kl, km, kt⟩ ∧ Below w.heap.size w (set6 wr w.heap.size ⟨kn, kk, kd, kl, km, kt⟩)) := Lib.hid ⟨HK.out.2.1.set6 _, below_set6 HK.out.1 (Nat.le_refl _) _⟩
        obtain ⟨b0, b1, b2, b3, b4, b5, bf⟩ := HK.out.2.1
        have f0 := bf 0 (by decide)
        have f1 := bf 1 (by decide)
        have f2 := bf 2 (by decide)
        have f3 := bf 3 (by decide)
        have f4 := bf 4 (by decide)
        have f5 := bf 5 (by decide)
        obtain ⟨g0, g1, g2, g3, g4, g5, _⟩ := HS6.out.1
        have HF := Lib.hid HS6.out.2
        unfold kZero at b0 b1 b2 b3 b4 b5
        unfold set6 at g0 g1 g2 g3 g4 g5 HF
        simp only at b0 b1 b2 b3 b4 b5 g0 g1 g2 g3 g4 g5 HF
        clear bf HS6
        go_wp2
        exact bodyPost_ret (v := .tuple #[.agg #[.string kn, .int .i64 kk, .string kd, .int .i64 kl, .int .i64 km, .string kt], .bool true]) (by simp [results, Tryz.results70, go_sem, g0, g1, g2, g3, g4, g5]) rfl ⟨ret_val (by rw [HR.out]; rfl), HF.out⟩
      · have HN2 : Hid (letterK (xs.drop (t + 1)) nm = r) := Lib.hid (by
          have h1 := HE.out
          rw [show letterB nm ⟨kn, kk, kd, kl, km, kt⟩ = false by unfold letterB; rw [decide_eq_false hl, Bool.and_false]] at h1
          exact h1.symm)
        have d3 : (kt.toList == nm.toList) = false := beq_eq_false_iff_ne.2 (fun h => hl (toList_inj h))
        clear HE hl
        go_wp2
        go_roundw
        case rel => exact ⟨t + 1, by go_num, by omega, Lib.hid ⟨HK.out.1, HK.out.2.1, HN2.out⟩⟩
        case measure => simp [intOf]; omega
    · have HR : Hid (r = none) := Lib.hid (by
        have h1 := HK.out.2.2
        rw [List.drop_eq_nil_of_le (by rw [HN.out]; omega)] at h1
        exact h1.symm)
      have q2 : ¬ (t : Int) < n := by omega
      have HS6 : Hid (Box6 (set6 wr w.heap.size kZero) w.heap.size kZero ∧ Below w.heap.size w (set6 wr w.heap.size kZero)) := Lib.hid ⟨HK.out.2.1.set6 _, below_set6 HK.out.1 (Nat.le_refl _) _⟩
      obtain ⟨b0, b1, b2, b3, b4, b5, bf⟩ := HK.out.2.1
      have f0 := bf 0 (by decide)
      have f1 := bf 1 (by decide)
      have f2 := bf 2 (by decide)
      have f3 := bf 3 (by decide)
      have f4 := bf 4 (by decide)
      have f5 := bf 5 (by decide)
      obtain ⟨g0, g1, g2, g3, g4, g5, _⟩ := HS6.out.1
      have HF := Lib.hid HS6.out.2
      unfold kZero at b0 b1 b2 b3 b4 b5
      unfold set6 kZero at g0 g1 g2 g3 g4 g5 HF
      simp only at b0 b1 b2 b3 b4 b5 g0 g1 g2 g3 g4 g5 HF
      clear bf HS6 hn'
      go_wp2
      exact bodyPost_ret (v := .tuple #[.agg #[.string ⟨#[]⟩, .int .i64 0, .string ⟨#[]⟩, .int .i64 0, .int .i64 0, .string ⟨#[]⟩], .bool false]) (by simp [results, Tryz.results70, go_sem, g0, g1, g2, g3, g4, g5]) rfl ⟨ret_val (by rw [HR.out]; rfl), HF.out⟩
theorem Keys.name {w : World} {g : Nat} {xs : List KeyV} (h : Keys w (some ⟨g, 0, none⟩) xs) (i : Nat) (hi : i < xs.length) : w.cell? ⟨g, i * 6, none⟩ = some (.string xs[i].name) := by
  obtain ⟨a, ea, _, a0, _⟩ := h i hi
  have ea : g = a := by simpa using ea
  rw [ea]; exact a0
theorem less_cmp : ∀ a b : List UInt8, Op.bytesLess a b = decide (Lib.compareBytes a b < 0)
  | [], [] => rfl
  | [], _ :: _ => rfl
  | _ :: _, [] => rfl
  | x :: a, y :: b => by
    unfold Op.bytesLess Lib.compareBytes
    by_cases h1 : x < y
    · simp [h1]
    · by_cases h2 : y < x
      · have h3 : ¬ x = y := fun e => by subst e; exact h1 h2
        simp [h1, h2, h3]
      · have h3 : x = y := UInt8.le_antisymm (UInt8.not_lt.1 h2) (UInt8.not_lt.1 h1)
        subst h3
        simp [h1, less_cmp a b]
end Go.Proofs.YtopghlnoklajkaaGreatDoor
