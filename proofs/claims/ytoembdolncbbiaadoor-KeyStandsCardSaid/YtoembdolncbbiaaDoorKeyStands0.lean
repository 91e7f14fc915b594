/-
  The walks of the laws' alike and of KeyStands.
-/
import Derived.Test.YtoembdolncbbiaaDoorKeyRefs
namespace Go.Proofs.YtoembdolncbbiaaDoor
open Go.ChangeShapes Go.WideShapes Go.ChangeAt Go.RowKit

/-- An append of definitions to a row of the call's own. -/
theorem wpList_append_keys {ops : Array Oper} {rest : List Oper} {o : Oper} {a : Act} {Q : Exit → Act → World → Prop} (hgd : o.guard = none) (s x : Operand)
    (ho : o.op = .call { callee := .builtin .append, args := #[s, x], argTypes := #[27, 27] }) {B n m c g : Nat} {w : World} {v : Value} {ls ks : List KeyV} (hown : w.ownsRow B 54 6 v n (flat ls)) (hB : B ≤ w.heap.size) (hn : n + m ≤ 1000000) (hk : Keys w (some ⟨g, 0, none⟩) ks) (hm : ks.length = m) (h0 : 0 < m)
    (hs : a.eval s = v) (hx : a.eval x = .slice (some ⟨g, 0, none⟩) m c)
    (h : ∀ y c' w', Keys w' (some ⟨y, 0, none⟩) (ls ++ ks) → Below B w w' → wpList Tryd.prog ops Q rest (a.put o.dst (.slice (some ⟨y, 0, none⟩) (n + m) c')) w') : wpList Tryd.prog ops Q (o :: rest) a w := by
  obtain ⟨i0, hi, hz0, hz1, hz2⟩ := info_parts infoKey
  refine wpList_append_own w hgd s x 27 ho B 54 i0 _ 6 72 Tryd.underlying27 hi hz0 hz1 hz2 rfl (by decide) v n (flat ls) hs hown ⟨g, 0, none⟩ m c (flat ks) hx (by rw [flat_len, hm]) (fun j u hu => by rw [add_at, Nat.zero_add]; exact hk.flat j u hu) (flat_one _) (by unfold maxLen; omega) (by omega) hB ?_
  intro v' w' h1 h2 _
  rw [← flat_append] at h1
  rcases h1.2 with ⟨_, h3⟩ | ⟨y, cap, cur, hv, _, hy, _, _, _, hl⟩
  · omega
  · subst hv
    refine h y cap w' (Keys.of_block (t := 54) (fr := (0, 0)) hy fun j u hu => ?_) ((Below.refl B w).grown h2 hB fun k hk => (hown.lt k hk).1)
    rw [← hl, List.getElem?_take] at hu
    split at hu
    · rw [Array.getElem?_toList] at hu; exact hu
    · cases hu
/-- The first append's row is the call's own. -/
theorem own_of_first {w : World} {g c n : Nat} {cur : Array Value} {ls : List KeyV} (hg : w.heap[g]? = some (.cells cur 54 (0, 0))) (hl : ls.length = n) (hc : n ≤ c) (hcs : c * 6 = cur.size) (hcm : c ≤ maxLen) (hp : ∀ (j : Nat) (v : Value), (flat ls)[j]? = some v → cur[j]? = some v) (B : Nat) (hB : B ≤ g) : w.ownsRow B 54 6 (.slice (some ⟨g, 0, none⟩) n c) n (flat ls) := by
  refine ⟨by rw [flat_len, hl], .inr ⟨g, c, cur, rfl, hB, hg, hc, hcm, hcs.symm, ?_⟩⟩
  apply List.ext_getElem?
  intro j
  rw [List.getElem?_take]
  by_cases hj : j < n * 6
  · rw [if_pos hj, Array.getElem?_toList]
    have h2 : j < (flat ls).length := by rw [flat_len, hl]; exact hj
    rw [List.getElem?_eq_getElem h2]
    exact hp j _ (List.getElem?_eq_getElem h2)
  · rw [if_neg hj, List.getElem?_eq_none (by rw [flat_len, hl]; omega)]

theorem first_run2 (w : World) (g o m c : Nat) (news : List Value) (hl : news.length = m * 6) (hnews : ∀ (j : Nat) (v : Value), news[j]? = some v → w.cell? ⟨g, o + j, none⟩ = some v) (hm : 0 < m) (hn : m ≤ 1000000) :
    ∃ c' cur, (∀ ty, (Builtin.append_ #[27, 27] ty #[.slice none 0 0, .slice (some ⟨g, o, none⟩) m c]).run Tryd.prog w = .ok (.slice (some ⟨w.heap.size, 0, none⟩) m c') (w.drew.alloc (.cells cur 54))) ∧
      m ≤ c' ∧ c' * 6 = cur.size ∧ c' ≤ maxLen ∧ ∀ (j : Nat) (v : Value), news[j]? = some v → cur[j]? = some v := by
  obtain ⟨i0, hi, hz0, hz1, hz2⟩ := info_parts infoKey
  have hle := grownCap_ge w m 0 54
  refine ⟨_, _, fun ty => run_append_nil (P := Tryd.prog) w 27 ty 54 i0 _ Tryd.underlying27 hi hz0 ⟨g, o, none⟩ m c news (by rw [hz1]; exact hl) (fun j v hv => by rw [add_at]; exact hnews j v hv) hm (by omega) (by rw [hz2]; omega), hle, ?_, grownCap_le_maxLen w m 0 _ (by unfold maxLen; omega), ?_⟩
  · rw [Array.size_append, size_zeroCells]
    show _ = news.toArray.size + (_ - m) * 6
    simp only [List.size_toArray, hl]
    omega
  · intro j v hv
    have hj : j < news.length := (List.getElem?_eq_some_iff.1 hv).1
    rw [Array.getElem?_append_left (by simpa using hj)]
    rw [List.getElem?_toArray]; exact hv
theorem block_under (w : World) (o1 o2 : Obj) : ((w.alloc o1).alloc o2).heap[w.heap.size]? = some o1 := ((below_one (w.alloc o1) o2).block w.heap.size (by simp)).trans (heap_alloc_new w o1)
/-- Three definitions in a row. -/
def three (m : ByteArray) : List KeyV := [⟨m, 0, ⟨#[]⟩, 0, 0, m⟩, ⟨⟨#[110, 101, 116, 46, 112, 111, 114, 116]⟩, 0, ⟨#[]⟩, 0, 0, ⟨#[112]⟩⟩, kZero]

theorem gen_wpl {P : Program} {ops : Array Oper} {Q : Exit → Act → World → Prop} {l : List Oper} {a : Act} {w : World} (F : World → Prop) (hF : F w) (h : ∀ W, F W → wpList P ops Q l a W) : wpList P ops Q l a w := h w hF
set_option maxHeartbeats 1600000 in
set_option maxRecDepth 100000 in
theorem alike_any (xs : List KeyV) (more : ByteArray) (S X : Nat) (x y : Option Addr) (c d : Nat) (w : World) (hS : SetAt w S x c xs) (hX : SetAt w X y d xs) (hs : Sorted xs) (h0 : 0 < xs.length) (hn : xs.length ≤ 1000) :
    Calls Tryd.prog 11 #[.pointer (some ⟨S, 0, none⟩), .pointer (some ⟨X, 0, none⟩), .slice y xs.length d, .string more] w fun e w' => e = .returned (.bool true) ∧ Below w.heap.size w w' := by
  have HS := Lib.hid hS
  have HX := Lib.hid hX
  have HQ := Lib.hid hs
  have HN := Lib.hid h0
  obtain ⟨b, hye⟩ : ∃ b, y = some ⟨b, 0, none⟩ := by obtain ⟨b, hxe, _⟩ := hX.keys 0 h0; exact ⟨b, hxe⟩
  subst hye
  obtain ⟨n, hn'⟩ : ∃ n, xs.length = n := ⟨_, rfl⟩
  have HNN := Lib.hid hn'
  rw [hn'] at hn h0 ⊢
  clear hS hX hs hn'
  go_enter Tryd.func11, Tryd.ntmps11
  go_wp2_with fail
  refine (all_any xs S x c w HS.out HN.out (by rw [HNN.out]; omega)).mono ?_
  rintro e w1 ⟨g1, c1, rfl, h1a, h1b, h1c, h1d⟩
  have HB1 := Lib.hid h1d
  have HK1 := Lib.hid h1c
  rw [HNN.out]
  clear h1a h1b h1c h1d
  go_wp2_with fail
  refine (refAll_any xs X _ d w1 (HX.out.below HB1.out) HN.out HQ.out (by rw [HNN.out]; omega)).mono ?_
  rintro e w2 ⟨g2, c2, rfl, h2a, h2b, h2c, h2d⟩
  have HB2 := Lib.hid (HB1.out.trans (h2d.mono HB1.out.size))
  have HK2 := Lib.hid (HK1.out.below h2d)
  have HC := Lib.hid (ksame_any xs g1 g2 c1 c2 w2 HK2.out h2c (by rw [HNN.out]; omega))
  rw [HNN.out] at HC ⊢
  clear h2a h2b h2c h2d HB1 HK1 HK2
  go_wp2_with fail
  refine HC.out.mono ?_
  rintro e w3 ⟨rfl, hb3⟩
  have HB3 := Lib.hid (HB2.out.trans (hb3.mono HB2.out.size))
  clear hb3 HC HB2
  obtain ⟨c4, cur, hr, hc4, hcs, hcm, hp⟩ := first_run2 w3 b 0 n d (flat xs) (by rw [flat_len, HNN.out]) (fun j v hv => by rw [Nat.zero_add]; exact (HX.out.keys.below HB3.out).flat j v hv) h0 (by omega)
  have HR := Lib.hid hr
  have HA : Hid ((w3.drew.alloc (.cells cur 54)).ownsRow w.heap.size 54 6 (.slice (some ⟨w3.heap.size, 0, none⟩) n c4) n (flat xs) ∧ Below w.heap.size w (w3.drew.alloc (.cells cur 54))) := Lib.hid ⟨own_of_first (heap_alloc_new w3.drew _) HNN.out hc4 hcs hcm hp _ HB3.out.size, HB3.out.trans ((below_drew_alloc w3 _).mono HB3.out.size)⟩
  clear hr hp hc4 hcs hcm
  generalize hz3 : w3.heap.size = z3 at HR HA
  go_wp2_with (at_builtin; first
    | (refine wpList_append_eq rfl _ _ _ _ rfl _ _ _ rfl rfl (HR.out _) ?_; refine gen_wpl (fun W => W.ownsRow w.heap.size 54 6 (.slice (some ⟨z3, 0, none⟩) n c4) n (flat xs) ∧ Below w.heap.size w W) HA.out ?_; clear HR HA; intro w4 h4; have HO := Lib.hid h4; clear h4)
    | (refine wpList_append_keys rfl _ _ rfl (HO.out.1.alloc _) (Nat.le_trans HO.out.2.size (below_one w4 _).size) (m := 3) (by omega) (keys_flat w4 (three more) _) rfl (by decide) rfl rfl ?_; intro gl cl w5 hk5 hb5; have HK5 := Lib.hid hk5; have HB5 := Lib.hid ((HO.out.2.trans ((below_one w4 _).mono HO.out.2.size)).trans hb5); clear hk5 hb5 HO))
  obtain ⟨ks, hks⟩ : ∃ ks, xs ++ three more = ks := ⟨_, rfl⟩
  have HKL : Hid (ks.length = n + 3) := Lib.hid (by rw [← hks, List.length_append, HNN.out]; rfl)
  rw [hks] at HK5
  clear hks
  go_loopw [11, 12, 13, 14, 15, 16, 17, 18, 19] (fun i _ _ _ _ _ _ _ _ wr => ∃ t : Nat, i = .int .i64 t ∧ t ≤ n + 3 ∧ Hid (Below w.heap.size w wr ∧ Keys wr (some ⟨gl, 0, none⟩) ks)) (fun i _ _ _ _ _ _ _ _ _ => n + 3 - (intOf i).toNat)
  case atStart => exact ⟨0, rfl, by omega, Lib.hid ⟨HB5.out, HK5.out⟩⟩
  case round =>
    clear HB5 HK5 HB3
    obtain ⟨t, rfl, ht, HK⟩ := hrel
    by_cases hlt : t < n + 3
    · have htl : t < ks.length := by rw [HKL.out]; exact hlt
      have q1 : (0 : Int) ≤ t := by omega
      have q2 : (t : Int) < ((n + 3 : Nat) : Int) := by omega
      have hx := HK.out.2
      obtain ⟨kn, hkn⟩ : ∃ kn, (ks[t]'htl).name = kn := ⟨_, rfl⟩
      obtain ⟨kt, hkt⟩ : ∃ kt, (ks[t]'htl).letter = kt := ⟨_, rfl⟩
      have HNM : Hid (∀ W, Below wr.heap.size wr W → W.cell? ⟨gl, t * 6, none⟩ = some (.string kn) ∧ W.cell? ⟨gl, t * 6 + 5, none⟩ = some (.string kt)) := Lib.hid fun W hW => by
        obtain ⟨g, e, _, c0, _, _, _, _, c5⟩ := (HK.out.2.below hW) t htl
        have eg : gl = g := by simpa using e
        subst eg
        rw [hkn] at c0
        rw [hkt] at c5
        exact ⟨c0, c5⟩
      have HSW : Hid (∀ W, Below wr.heap.size wr W → SetAt W S x c xs ∧ SetAt W X (some ⟨b, 0, none⟩) d xs) := Lib.hid fun W hW =>
        have h := HK.out.1.trans (hW.mono HK.out.1.size)
        ⟨HS.out.below h, HX.out.below h⟩
      have hxl : xs.length ≤ 1000000 := by rw [HNN.out]; omega
      clear hkn hkt htl hx
      have m0 := (HNM.out wr (Below.refl _ _)).1
      go_wp2_with fail
      refine (find_any xs kn S x c wr (HSW.out wr (Below.refl _ _)).1 HQ.out hxl).mono ?_
      rintro e v1 ⟨rfl, hv1⟩
      have HV1 := Lib.hid hv1
      unfold oAgg
      obtain ⟨ka, hka⟩ : ∃ ka, (findK xs kn).getD kZero = ka := ⟨_, rfl⟩
      obtain ⟨fa, hfa⟩ : ∃ fa, (findK xs kn).isSome = fa := ⟨_, rfl⟩
      have HKA := Lib.hid hka
      have HFA := Lib.hid hfa
      rw [hka, hfa]
      unfold kAgg
      clear hv1 hka hfa m0
      have m1 : ∀ o, (v1.alloc o).cell? ⟨gl, t * 6, none⟩ = some (.string kn) := fun o => (HNM.out _ (HV1.out.trans ((below_one v1 o).mono HV1.out.size))).1
      have HW1 : Hid (∀ o, Below wr.heap.size wr (v1.alloc o)) := Lib.hid fun o => HV1.out.trans ((below_one v1 o).mono HV1.out.size)
      go_wp2_with fail
      refine (refFind_any xs kn X _ d _ (HSW.out _ (HW1.out _)).2 hxl).mono ?_
      rintro e v2 ⟨rfl, hv2⟩
      have HXA := Lib.hid ((box6_new v1 ka _).below hv2)
      have HV2 := Lib.hid ((HW1.out _).trans (hv2.mono (HW1.out _).size))
      unfold oAgg
      rw [HKA.out, HFA.out]
      unfold kAgg
      clear hv2 m1
      have m2 : ∀ o, (v2.alloc o).cell? ⟨gl, t * 6 + 5, none⟩ = some (.string kt) := fun o => (HNM.out _ (HV2.out.trans ((below_one v2 o).mono HV2.out.size))).2
      have HW2 : Hid (∀ o, Below wr.heap.size wr (v2.alloc o)) := Lib.hid fun o => HV2.out.trans ((below_one v2 o).mono HV2.out.size)
      go_wp2_with fail
      refine (letter_any xs kt S x c _ (HSW.out _ (HW2.out _)).1 hxl).mono ?_
      rintro e v3 ⟨rfl, hv3⟩
      have HXB := Lib.hid ((HXA.out.below (below_one v2 _)).below hv3)
      have HXC := Lib.hid ((box6_new v2 ka _).below hv3)
      have HV3 := Lib.hid ((HW2.out _).trans (hv3.mono (HW2.out _).size))
      unfold oAgg
      obtain ⟨kb, hkb⟩ : ∃ kb, (letterK xs kt).getD kZero = kb := ⟨_, rfl⟩
      obtain ⟨fb, hfb⟩ : ∃ fb, (letterK xs kt).isSome = fb := ⟨_, rfl⟩
      have HKB := Lib.hid hkb
      have HFB := Lib.hid hfb
      rw [hkb, hfb]
      unfold kAgg
      clear hv3 hkb hfb m2 HXA
      have m3 : ∀ o, (v3.alloc o).cell? ⟨gl, t * 6 + 5, none⟩ = some (.string kt) := fun o => (HNM.out _ (HV3.out.trans ((below_one v3 o).mono HV3.out.size))).2
      have HW3 : Hid (∀ o, Below wr.heap.size wr (v3.alloc o)) := Lib.hid fun o => HV3.out.trans ((below_one v3 o).mono HV3.out.size)
      go_wp2_with fail
      refine (refLetter_any xs kt X _ d _ (HSW.out _ (HW3.out _)).2 hxl).mono ?_
      rintro e v4 ⟨rfl, hv4⟩
      have HXD := Lib.hid ((HXB.out.below (below_one v3 _)).below hv4)
      have HXE := Lib.hid ((HXC.out.below (below_one v3 _)).below hv4)
      have HXF := Lib.hid ((box6_new v3 kb _).below hv4)
      have HV4 := Lib.hid ((HW3.out _).trans (hv4.mono (HW3.out _).size))
      unfold oAgg
      rw [HKB.out, HFB.out]
      unfold kAgg
      clear hv4 m3 HXB HXC
      have HW4 : Hid (∀ o, Below w.heap.size w (v4.alloc o) ∧ Keys (v4.alloc o) (some ⟨gl, 0, none⟩) ks) := Lib.hid fun o => by
        have h := HV4.out.trans ((below_one v4 o).mono HV4.out.size)
        exact ⟨HK.out.1.trans (h.mono HK.out.1.size), HK.out.2.below h⟩
      have a0 : ∀ o, (v4.alloc o).cell? ⟨v1.heap.size, 0, none⟩ = some (.string ka.name) := fun o => (HXD.out.below (below_one v4 o)).c0
      have a1 : ∀ o, (v4.alloc o).cell? ⟨v1.heap.size, 1, none⟩ = some (.int .i64 ka.kind) := fun o => (HXD.out.below (below_one v4 o)).c1
      have a2 : ∀ o, (v4.alloc o).cell? ⟨v1.heap.size, 2, none⟩ = some (.string ka.dflt) := fun o => (HXD.out.below (below_one v4 o)).c2
      have a3 : ∀ o, (v4.alloc o).cell? ⟨v1.heap.size, 3, none⟩ = some (.int .i64 ka.least) := fun o => (HXD.out.below (below_one v4 o)).c3
      have a4 : ∀ o, (v4.alloc o).cell? ⟨v1.heap.size, 4, none⟩ = some (.int .i64 ka.most) := fun o => (HXD.out.below (below_one v4 o)).c4
      have a5 : ∀ o, (v4.alloc o).cell? ⟨v1.heap.size, 5, none⟩ = some (.string ka.letter) := fun o => (HXD.out.below (below_one v4 o)).c5
      have b0 : ∀ o, (v4.alloc o).cell? ⟨v2.heap.size, 0, none⟩ = some (.string ka.name) := fun o => (HXE.out.below (below_one v4 o)).c0
      have b1 : ∀ o, (v4.alloc o).cell? ⟨v2.heap.size, 1, none⟩ = some (.int .i64 ka.kind) := fun o => (HXE.out.below (below_one v4 o)).c1
      have b2 : ∀ o, (v4.alloc o).cell? ⟨v2.heap.size, 2, none⟩ = some (.string ka.dflt) := fun o => (HXE.out.below (below_one v4 o)).c2
      have b3 : ∀ o, (v4.alloc o).cell? ⟨v2.heap.size, 3, none⟩ = some (.int .i64 ka.least) := fun o => (HXE.out.below (below_one v4 o)).c3
      have b4 : ∀ o, (v4.alloc o).cell? ⟨v2.heap.size, 4, none⟩ = some (.int .i64 ka.most) := fun o => (HXE.out.below (below_one v4 o)).c4
      have b5 : ∀ o, (v4.alloc o).cell? ⟨v2.heap.size, 5, none⟩ = some (.string ka.letter) := fun o => (HXE.out.below (below_one v4 o)).c5
      have c0 : ∀ o, (v4.alloc o).cell? ⟨v3.heap.size, 0, none⟩ = some (.string kb.name) := fun o => (HXF.out.below (below_one v4 o)).c0
      have c1 : ∀ o, (v4.alloc o).cell? ⟨v3.heap.size, 1, none⟩ = some (.int .i64 kb.kind) := fun o => (HXF.out.below (below_one v4 o)).c1
      have c2 : ∀ o, (v4.alloc o).cell? ⟨v3.heap.size, 2, none⟩ = some (.string kb.dflt) := fun o => (HXF.out.below (below_one v4 o)).c2
      have c3 : ∀ o, (v4.alloc o).cell? ⟨v3.heap.size, 3, none⟩ = some (.int .i64 kb.least) := fun o => (HXF.out.below (below_one v4 o)).c3
      have c4 : ∀ o, (v4.alloc o).cell? ⟨v3.heap.size, 4, none⟩ = some (.int .i64 kb.most) := fun o => (HXF.out.below (below_one v4 o)).c4
      have c5 : ∀ o, (v4.alloc o).cell? ⟨v3.heap.size, 5, none⟩ = some (.string kb.letter) := fun o => (HXF.out.below (below_one v4 o)).c5
      have ha := neq_self ka
      have hb := neq_self kb
      have hgd := neq_guard
      go_wp2
      go_roundw
      case rel => exact ⟨t + 1, by go_num, by omega, Lib.hid (HW4.out _)⟩
      case measure => simp [intOf]; omega
    · have q2 : ¬ (t : Int) < ((n + 3 : Nat) : Int) := by omega
      go_wp2
      go_ret
      exact ⟨rfl, HK.out.1⟩
end Go.Proofs.YtoembdolncbbiaaDoor
