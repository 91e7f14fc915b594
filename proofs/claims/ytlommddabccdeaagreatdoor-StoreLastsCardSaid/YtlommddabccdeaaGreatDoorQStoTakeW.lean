/-
  StoTakeW.
-/
import Derived.Test.YtlommddabccdeaaGreatDoorQStoTake
namespace Go.Proofs.YtlommddabccdeaaGreatDoor
open Go.ChangeShapes Go.WideShapes Go.ChangeAt Go.RowKit

set_option maxHeartbeats 3200000 in
set_option maxRecDepth 100000 in
theorem take_any (w : World) (M n : Nat) (base : List PairV) (cs : List ChgV) (says : Nat) (first : Bool) (hK : TakeOk base cs says first) (h : KMap w M n (comF base)) (hS : StdX w) :
  Calls Tryz.prog 58 #[.map (some M), .string (bOf (rowL says ++ cs.flatMap (rowOfC says))), .bool first] w fun e w' => e = .returned (.bool true) ∧ (∃ n', KMap w' M n' (comF (allB base cs))) ∧ Upd [M] w w' := by
 have hsy : says = 0 ∨ says = 1 := hK.beg.imp And.left And.left
 have hlen := hK.len
 rw [List.length_append, rowL_one says hsy] at hlen
 have HSY := Lib.hid hsy
 have hML := h.lt
 have HRL : Hid (∀ i, (restC says cs i).length ≤ 60000) := Lib.hid fun i => by have := restC_len says cs i; omega
 have HNR : Hid (Calls Tryz.prog 86 #[.string (bOf (rowL says ++ cs.flatMap (rowOfC says)))] w fun e w' => ∃ b g, e = .returned (.pointer (some ⟨b, 0, none⟩)) ∧ Rdr w' b g (rowL says ++ restC says cs 0, 0) ∧ Below w.heap.size w w' ∧ w.heap.size ≤ b ∧ w.heap.size ≤ g) := Lib.hid (by
  have := newReader_any (bOf (rowL says ++ cs.flatMap (rowOfC says))) w
  rw [bOf_list] at this
  exact this)
 have HNU : Hid (∀ W b g, Rdr W b g (rowL says ++ restC says cs 0, 0) → Calls Tryz.prog 87 #[.pointer (some ⟨b, 0, none⟩)] W fun e w' => e = .returned (.int .i64 says) ∧ Rdr w' b g (restC says cs 0, 0) ∧ Upd [b] W w') := Lib.hid fun W b g hr => by
  have := rnum_any W b g _ hr (by have := HRL.out 0; rw [List.length_append, rowL_one says hsy]; omega)
  rcases hsy with rfl | rfl
  ·rw [numR_0] at this; exact this
  ·rw [numR_1] at this; exact this
 have HLF : Hid (∀ W b g i, Rdr W b g (restC says cs i, 0) → Calls Tryz.prog 89 #[.pointer (some ⟨b, 0, none⟩)] W fun e w' => e = .returned (.int .i64 (restC says cs i).length) ∧ W = w') := Lib.hid fun W b g i hr => left_any W b g _ hr
 have HMB : Hid (∀ W, Calls Tryz.prog 88 #[.int .i64 says, .bool first, .int .i64 (restC says cs 0).length] W fun e w' => e = .returned (.bool true) ∧ W = w') := Lib.hid fun W => by
  have := mayBegin_any says first (restC says cs 0).length W
  have e : (if (says : Int) = 0 then decide (0 < ((restC says cs 0).length : Int)) else if (says : Int) = 1 then first else false) = true := by
   rcases hK.beg with ⟨rfl, hne⟩ | ⟨rfl, hf, _⟩
   ·rw [if_pos (by decide), decide_eq_true_eq]
    cases cs with
    | nil => exact absurd rfl hne
    | cons c cs =>
     rw [restC_at _ _ 0 (by simp), List.length_append]
     have := txL_pos (c :: cs)[0].t
     omega
   ·rw [if_neg (by decide), if_pos (by decide)]; exact hf
  rw [e] at this
  exact this
 have HST : Hid (∀ w1 w2 w3 b g, Rdr w1 b g (rowL says ++ restC says cs 0, 0) → Below w.heap.size w w1 → w.heap.size ≤ b → w.heap.size ≤ g → Rdr w2 b g (restC says cs 0, 0) → Upd [b] w1 w2 → w3 = w2.alloc (Obj.cells #[.string ⟨#[]⟩, .string ⟨#[]⟩] 66) → TkAt w w3 M b g w2.heap.size base cs says 0) := Lib.hid fun w1 w2 w3 b g hr1 hb1 hb hg hr2 hu2 e3 => by
  subst e3
  have hu : Upd [] w w2 := (Upd.of_below hb1).trans hu2 fun x hx => by rw [List.mem_singleton] at hx; right; omega
  have hba : Below w2.heap.size w2 (w2.alloc (Obj.cells #[.string ⟨#[]⟩, .string ⟨#[]⟩] 66)) := (Below.refl _ w2).alloc (Nat.le_refl _) _
  obtain ⟨l1, l2⟩ := hr2.lt
  refine ⟨hr2.below hba, ⟨n, (h.same (hu.block M hML (by simp))).below hba⟩, heap_alloc_new w2 _, ?_, hML, hb, hg, hu.size, by omega, by omega⟩
  exact (hu.mono (fun x hx => absurd hx List.not_mem_nil)).trans (Upd.of_below (F := []) hba) (fun x hx => absurd hx List.not_mem_nil)
 have HRD : Hid (∀ W b g i r c, Rdr W b g (conL says c.v ++ r, 0) → c ∈ cs → r = restC says cs (i + 1) → Calls Tryz.prog 91 #[.pointer (some ⟨b, 0, none⟩), .int .i64 says] W fun e w' => e = .returned (.tuple #[conV c.v, .bool true]) ∧ Rdr w' b g (r, 0) ∧ Upd [b] W w') := Lib.hid fun W b g i r c hr hc e => by
  refine readCon_any W b g says hsy c.v (fun e1 => ?_) (okC_sizes (hK.ok c hc)).2.2 r (by rw [e]; exact HRL.out _) hr
  rcases hK.beg with ⟨e0, _⟩ | ⟨_, _, hv⟩
  ·omega
  ·exact hv c hc
 have HTX : Hid (∀ W b g s r, Rdr W b g (txL s ++ r, 0) → s.size ≤ 32 → r.length ≤ 100000 → Calls Tryz.prog 90 #[.pointer (some ⟨b, 0, none⟩), .int .i64 32] W fun e w' => e = .returned (.string s) ∧ Rdr w' b g (r, 0) ∧ Upd [b] W w') := Lib.hid fun W b g s r hr hs hl => by
  have hx := txL_len s (by omega)
  have := rtext_any W b g _ 32 hr (by rw [List.length_append]; omega)
  rw [textR_tx (by omega) (by omega)] at this
  exact this
 have HSX : Hid (∀ W, Upd [M] w W → StdX W) := Lib.hid fun W hu => hS.map h hu
 have HFN : Hid (∀ W b g, Rdr W b g (restC says cs cs.length, 0) → Upd [M] w W → Calls Tryz.prog 92 #[.pointer (some ⟨b, 0, none⟩)] W fun e w' => e = .returned (.int .i64 0) ∧ Below W.heap.size W w') := Lib.hid fun W b g hr hu => by
  have := rdone_any W b g _ hr (hS.map h hu).2
  rw [restC_end] at this
  exact this
 have HK := Lib.hid hK
 clear h hlen hS
 have HM : Hid (M < w.heap.size) := Lib.hid hML
 clear hML hsy hK
 go_enter Tryz.func58, Tryz.ntmps58
 go_wp2_with (first
  | (go_at_call 86; refine HNR.out.mono ?_; rintro e w1 ⟨b, g, rfl, hr1, hb1, hbb, hgg⟩; have H1 := Lib.hid (And.intro hr1 (And.intro hb1 (And.intro hbb hgg))); clear hr1 hb1 hbb hgg)
  | (go_at_call 87; refine (HNU.out _ _ _ H1.out.1).mono ?_; rintro e w2 ⟨rfl, hr2, hu2⟩; have H2 := Lib.hid (And.intro hr2 hu2); clear hr2 hu2)
  | (go_at_call 89; refine (HLF.out _ _ _ 0 H2.out.1).mono ?_; rintro e w3 ⟨rfl, rfl⟩)
  | (go_at_call 88; refine (HMB.out _).mono ?_; rintro e w3 ⟨rfl, rfl⟩))
 have HTK := Lib.hid (HST.out w1 w2 _ b g H1.out.1 H1.out.2.1 H1.out.2.2.1 H1.out.2.2.2 H2.out.1 H2.out.2 rfl)
 obtain ⟨p, hp⟩ : ∃ p, w2.heap.size = p := ⟨_, rfl⟩
 rw [hp] at HTK ⊢
 generalize w2.alloc (Obj.cells #[.string ⟨#[]⟩, .string ⟨#[]⟩] 66) = w3 at *
 clear hp HST HNR HNU HMB H1 H2
 go_loopw [12] (fun _ wr => ∃ i, i ≤ cs.length ∧ Hid (TkAt w wr M b g p base cs says i)) (fun _ wr => rdrLeft b wr)
 case atStart => exact ⟨0, Nat.zero_le _, HTK⟩
 case round =>
  obtain ⟨i, hi, HR⟩ := hrel
  have HI := Lib.hid hi
  by_cases hlt : i < cs.length
  ·obtain ⟨c, hc⟩ : ∃ c, cs[i] = c := ⟨_, rfl⟩
   have hmem : c ∈ cs := by rw [← hc]; exact List.getElem_mem hlt
   obtain ⟨sT, sK, sV⟩ := okC_sizes (HK.out.ok _ hmem)
   have hrow := restC_at says cs i hlt
   have hcm := fun w5 w6 w7 n' => HR.out.came (w5 := w5) (w6 := w6) (w7 := w7) (n' := n') hlt HK.out.bs
   have hcp := lastP_less HK.out.rise HK.out.ok i hlt
   have hlk := look_take HK.out.bs HK.out.rise i hlt
   rw [hc] at hrow hcp hlk
   simp only [hc] at hcm
   have hpos := txL_pos c.t
   have hR := HRL.out i
   have hR1 := HRL.out (i + 1)
   have q1 : (0 : Int) < ((restC says cs i).length : Int) := by rw [hrow, List.length_append]; omega
   have hrl : (restC says cs (i + 1)).length < (restC says cs i).length := by rw [hrow]; simp only [List.length_append]; omega
   have hx2 : (txL c.k ++ (conL says c.v ++ restC says cs (i + 1))).length ≤ 100000 := by
    have e : (restC says cs i).length = (txL c.t).length + (txL c.k ++ (conL says c.v ++ restC says cs (i + 1))).length := by rw [hrow, List.length_append]
    omega
   have hx3 : (conL says c.v ++ restC says cs (i + 1)).length ≤ 100000 := by rw [List.length_append] at hx2; omega
   have HT1 : Hid (Calls Tryz.prog 90 #[.pointer (some ⟨b, 0, none⟩), .int .i64 32] wr fun e w' => e = .returned (.string c.t) ∧ Rdr w' b g (txL c.k ++ (conL says c.v ++ restC says cs (i + 1)), 0) ∧ Upd [b] wr w') := Lib.hid (by
    have hr := HR.out.rdr
    rw [hrow] at hr
    exact HTX.out wr b g c.t _ hr sT hx2)
   have HT2 : Hid (∀ W, Rdr W b g (txL c.k ++ (conL says c.v ++ restC says cs (i + 1)), 0) → Calls Tryz.prog 90 #[.pointer (some ⟨b, 0, none⟩), .int .i64 32] W fun e w' => e = .returned (.string c.k) ∧ Rdr w' b g (conL says c.v ++ restC says cs (i + 1), 0) ∧ Upd [b] W w') := Lib.hid fun W hr => HTX.out W b g c.k _ hr sK hx3
   have HRC : Hid (∀ W, Rdr W b g (conL says c.v ++ restC says cs (i + 1), 0) → Calls Tryz.prog 91 #[.pointer (some ⟨b, 0, none⟩), .int .i64 says] W fun e w' => e = .returned (.tuple #[conV c.v, .bool true]) ∧ Rdr w' b g (restC says cs (i + 1), 0) ∧ Upd [b] W w') := Lib.hid fun W hr => HRD.out W b g i _ c hr hmem rfl
   have HCM : Hid (∀ w5 w6 w7 n', Rdr w5 b g (restC says cs (i + 1), 0) → Upd [b] wr w5 → Below w5.heap.size w5 w6 → KMap w7 M n' (updK (comF (allB base (cs.take i))) c.t c.k (c.v.map fun v => conV (some v))) → Upd [M] w6 w7 → w7.heap[p]? = some (.cells #[.string (lastP cs i).1, .string (lastP cs i).2] 66 (0, 0)) ∧ TkAt w ((w7.setCell ⟨p, 0, none⟩ (.string c.t)).setCell ⟨p, 1, none⟩ (.string c.k)) M b g p base cs says (i + 1)) := Lib.hid fun w5 w6 w7 n' h5 hu5 hb6 hm hu7 => hcm w5 w6 w7 n' h5 hu5 hb6 hm hu7
   have HCP : Hid (cmpPl (lastP cs i) (c.t, c.k) < 0) := Lib.hid hcp
   have HDO : Hid (c.v ≠ lookP (allB base (cs.take i)) c.t c.k) := Lib.hid (by rw [hlk]; exact HK.out.does _ hmem)
   have HWD : Hid (wordB c.t.data.toList = true ∧ wordB c.k.data.toList = true) := Lib.hid (by
    have := HK.out.ok _ hmem
    unfold okC okP at this
    simp only [Bool.and_eq_true] at this
    exact ⟨this.1.1, this.1.2⟩)
   have HMS : Hid (c.t.size ≤ maxLen ∧ c.k.size ≤ maxLen) := Lib.hid (by unfold maxLen; omega)
   have HNB : Hid (∀ W n, KMap W M n (comF (allB base (cs.take i))) → n < maxLen) := Lib.hid fun W n hm => by
    have h1 := take_le HK.out.bs (fun c hc => List.mem_of_mem_take hc) hm
    have h2 := HK.out.few
    have h3 := HK.out.len
    have h4 := flat_ge says cs
    rw [List.length_append] at h3
    unfold maxLen
    omega
   have HME : Hid ((restC says cs (i + 1)).length < (restC says cs i).length ∧ rdrLeft b wr = (restC says cs i).length) := Lib.hid ⟨hrl, HR.out.rdr.left_⟩
   have HLT := Lib.hid hlt
   obtain ⟨LN, hLN⟩ : ∃ LN, (restC says cs i).length = LN := ⟨_, rfl⟩
   have HL1 := Lib.hid (HLF.out wr b g i HR.out.rdr)
   rw [hLN] at HL1 q1 HME
   clear hLN hmem sT sK sV hrow hpos hR hR1 hrl hx2 hx3 hcm hcp hlk HTX HRD HLF HFN HRL hc hlt hi
   obtain ⟨T, K, V⟩ := c
   simp only at HT1 HT2 HRC HCM HCP HDO HWD HMS
   obtain ⟨B1, V1, hB1⟩ : ∃ B1 V1, conV V = .agg #[.bool B1, .string V1] := by cases V <;> exact ⟨_, _, rfl⟩
   obtain ⟨l1, l2, hl12⟩ : ∃ l1 l2, lastP cs i = (l1, l2) := ⟨_, _, rfl⟩
   rw [hB1] at HRC
   rw [hl12] at HCP HCM
   go_wp2_with (first
    | (go_at_call 89; refine HL1.out.mono ?_; rintro e w2 ⟨rfl, rfl⟩)
    | (go_at_call 90; refine HT1.out.mono ?_; rintro e w2 ⟨rfl, hr2, hu2⟩; have H2 := Lib.hid (And.intro hr2 hu2); clear hr2 hu2)
    | (go_at_call 90; refine (HT2.out _ H2.out.1).mono ?_; rintro e w3 ⟨rfl, hr3, hu3⟩; have H3 := Lib.hid (And.intro hr3 hu3); have HA3 : Hid (∀ o, Rdr (w3.alloc o) b g _) := Lib.hid (fun o => hr3.below ((Below.refl _ w3).alloc (Nat.le_refl _) o)); clear hr3 hu3)
    | (go_at_call 91; refine (HRC.out _ (HA3.out _)).mono ?_; rintro e w4 ⟨rfl, hr4, hu4⟩; have H4 := Lib.hid (And.intro hr4 hu4); clear hr4 hu4))
   obtain ⟨w5, hw5⟩ : ∃ w5, w4.alloc (Obj.cells #[.bool B1, .string V1] 68) = w5 := ⟨_, rfl⟩
   have hp10 : w5.heap[w3.heap.size]? = some (.cells #[.string T, .string K] 66 (0, 0)) := by
    rw [← hw5, heap_alloc_old _ _ (Nat.lt_of_lt_of_le (by simp) H4.out.2.size), H4.out.2.block _ (by simp) (by have := H3.out.1.lt.1; simp; omega)]
    exact heap_alloc_new w3 _
   have hp11 : w5.heap[w4.heap.size]? = some (.cells #[.bool B1, .string V1] 68 (0, 0)) := by rw [← hw5]; exact heap_alloc_new w4 _
   have hu5 : Upd [b] wr w5 := by
    rw [← hw5]
    have h1 := (H2.out.2.trans H3.out.2 (fun _ h => Or.inl h)).trans (Upd.of_below (F := []) ((Below.refl _ w3).alloc (Nat.le_refl _) (Obj.cells #[.string T, .string K] 66))) (fun x hx => absurd hx List.not_mem_nil)
    exact (h1.trans H4.out.2 (fun _ h => Or.inl h)).trans (Upd.of_below (F := []) ((Below.refl _ w4).alloc (Nat.le_refl _) _)) (fun x hx => absurd hx List.not_mem_nil)
   have hr5 : Rdr w5 b g (restC says cs (i + 1), 0) := by rw [← hw5]; exact H4.out.1.below ((Below.refl _ w4).alloc (Nat.le_refl _) _)
   have hz4 : w4.heap.size ≠ M ∧ w3.heap.size ≠ M := by
    have h1 := HM.out
    have h2 := HR.out.upd.size
    have h3 := H2.out.2.size
    have h4 := H3.out.2.size
    have h5 := H4.out.2.size
    simp at h5
    omega
   rw [hw5]
   obtain ⟨⟨n5, hm5⟩, hp5, hum5⟩ := HR.out.kept hu5
   rw [hl12] at hp5
   have HZ := Lib.hid hz4
   have H5 := Lib.hid (And.intro hr5 (And.intro hu5 hum5))
   have HN5 := Lib.hid (HNB.out _ _ hm5)
   obtain ⟨P10, hP10⟩ : ∃ P10, w3.heap.size = P10 := ⟨_, rfl⟩
   obtain ⟨P11, hP11⟩ : ∃ P11, w4.heap.size = P11 := ⟨_, rfl⟩
   rw [hP10] at hp10 HZ ⊢
   rw [hP11] at hp11 HZ ⊢
   have HS5 : Hid (∀ W, Below w5.heap.size w5 W → Below w5.heap.size w5 W ∧ KMap W M n5 (comF (allB base (cs.take i))) ∧ W.cell? ⟨p, 0, none⟩ = some (.string l1) ∧ W.cell? ⟨p, 1, none⟩ = some (.string l2) ∧ W.cell? ⟨P10, 0, none⟩ = some (.string T) ∧ W.cell? ⟨P10, 1, none⟩ = some (.string K) ∧ W.cell? ⟨P11, 0, none⟩ = some (.bool B1) ∧ W.cell? ⟨P11, 1, none⟩ = some (.string V1)) := Lib.hid fun W hW => by
    have a1 := (hW.block _ (lt_of_heap hp5)).trans hp5
    have a2 := (hW.block _ (lt_of_heap hp10)).trans hp10
    have a3 := (hW.block _ (lt_of_heap hp11)).trans hp11
    exact ⟨hW, hm5.below hW, cell_at a1 (k := 0) rfl, cell_at a1 (k := 1) rfl, cell_at a2 (k := 0) rfl, cell_at a2 (k := 1) rfl, cell_at a3 (k := 0) rfl, cell_at a3 (k := 1) rfl⟩
   have HP10 : Hid (∀ w6 w7, Below w5.heap.size w5 w6 → Upd [M] w6 w7 → w7.heap[P10]? = some (.cells #[.string T, .string K] 66 (0, 0))) := Lib.hid fun w6 w7 hb hu => by
    rw [hu.block P10 (Nat.lt_of_lt_of_le (lt_of_heap hp10) hb.size) (by simpa using HZ.out.2), hb.block P10 (lt_of_heap hp10)]
    exact hp10
   obtain ⟨B2, V2, hB2⟩ : ∃ B2 V2, conV (lookP (allB base (cs.take i)) T K) = .agg #[.bool B2, .string V2] := by cases lookP (allB base (cs.take i)) T K <;> exact ⟨_, _, rfl⟩
   have hlook : ∀ W, KMap W M n5 (comF (allB base (cs.take i))) → (Instr.lookup 59 (.map (some M)) (.agg #[.string T, .string K]) false).run Tryz.prog W = .ok (.agg #[.bool B2, .string V2]) W := fun W hm =>
    hm.look Tryz.underlying59 (zeroC W) T K HMS.out.1 HMS.out.2 (by rw [comF_getD, hB2])
   have heq : ∀ W, (binOp .eql 68 (.agg #[.bool B1, .string V1]) (.agg #[.bool B2, .string V2])).run Tryz.prog W = .ok (.bool false) W := fun W => by
    rw [← hB1, ← hB2, eqlC]
    congr 2
    exact decide_eq_false HDO.out
   have hgd := fun x y W => eqlC_guard x y #[.bool B1, .string V1] #[.bool B2, .string V2] W
   have HRG : Hid (∀ W, Below w5.heap.size w5 W → Calls Tryz.prog 42 #[.agg #[.string T, .string K]] W fun e w' => e = .returned (.bool true) ∧ Below W.heap.size W w') := Lib.hid fun W hW => by
    have hs := HSX.out W (hum5.trans (Upd.of_below (F := []) hW) (fun x hx => absurd hx List.not_mem_nil))
    have := plcRight_any T K W hs.1 HMS.out.1 HMS.out.2
    rw [HWD.out.1, HWD.out.2] at this
    exact this
   have HBY : Hid (∀ W, Calls Tryz.prog 61 #[.agg #[.string l1, .string l2], .agg #[.string T, .string K]] W fun e w' => e = .returned (.int .i64 (cmpPl (l1, l2) (T, K))) ∧ Below W.heap.size W w') := Lib.hid fun W => byTK_bel (l1, l2) (T, K) W
   rw [cmpPl_m1 HCP.out] at HBY
   have HPT : Hid (∀ w6, Below w5.heap.size w5 w6 → Calls Tryz.prog 47 #[.map (some M), .agg #[.string T, .string K], .agg #[.bool B1, .string V1]] w6 fun e w' => e = .returned (.tuple #[]) ∧ (∃ n', KMap w' M n' (updK (comF (allB base (cs.take i))) T K (V.map fun v => conV (some v)))) ∧ Upd [M] w6 w') := Lib.hid fun w6 hb => by
    have := cput_any w6 M n5 _ (hm5.below hb) T K HMS.out.1 HMS.out.2 V HN5.out
    rw [hB1] at this
    exact this
   have HDR : Hid (Below w5.heap.size w5 w5.drew) := Lib.hid (Below.refl _ w5).drew
   clear hw5 hp10 hp11 hu5 hr5 hz4 hm5 hp5 hum5 hP10 hP11 hB1 hB2 hl12
   go_wp2
   go_region_held3 (fun W => Below w5.heap.size w5 W ∧ KMap W M n5 (comF (allB base (cs.take i))) ∧ W.cell? ⟨p, 0, none⟩ = some (.string l1) ∧ W.cell? ⟨p, 1, none⟩ = some (.string l2) ∧ W.cell? ⟨P10, 0, none⟩ = some (.string T) ∧ W.cell? ⟨P10, 1, none⟩ = some (.string K) ∧ W.cell? ⟨P11, 0, none⟩ = some (.bool B1) ∧ W.cell? ⟨P11, 1, none⟩ = some (.string V1))
    (first | exact KS2.out | exact KS.out | exact HS5.out _ HDR.out) (first
    | (go_at_call 42; (with_reducible refine (HRG.out _ HDR.out).mono ?_); rintro e w6 ⟨rfl, hb6⟩; have KS := Lib.hid (HS5.out _ (HDR.out.trans hb6)); clear hb6; dsimp only)
    | (go_at_call 61; (with_reducible refine (HBY.out _).mono ?_); rintro e w7 ⟨rfl, hb7⟩; have KS2 := Lib.hid (HS5.out _ (KS.out.1.trans (hb7.mono KS.out.1.size))); clear hb7; dsimp only)
    | fail)
   obtain ⟨kb, _, _, _, k4, k5, k6, k7⟩ := KS2.out
   have HK7 := Lib.hid kb
   clear kb
   go_wp2_with (go_at_call 47; refine (HPT.out _ HK7.out).mono ?_; rintro e w8 ⟨rfl, ⟨n', hm8⟩, hu8⟩; have HC8 := Lib.hid (HCM.out w5 _ w8 n' H5.out.1 H5.out.2.1 HK7.out hm8 hu8); have hp8 := HP10.out _ _ HK7.out hu8; have d0 := cell_at hp8 (k := 0) rfl; have d1 := cell_at hp8 (k := 1) rfl; have hq := HC8.out.1; have e0 := cell_at hq (k := 0) rfl; have e1 := cell_at hq (k := 1) rfl; have f0 := free_at hq (k := 0); have f1 := free_at hq (k := 1); clear hm8 hu8 hp8 hq)
   go_roundw
   case rel => exact ⟨i + 1, HLT.out, Lib.hid HC8.out.2⟩
   case measure =>
    rw [HC8.out.2.rdr.left_, HME.out.2]
    exact HME.out.1
  ·have e : i = cs.length := by omega
   subst e
   have HL0 := Lib.hid (HLF.out wr b g cs.length HR.out.rdr)
   rw [restC_end] at HL0
   have HFN2 := Lib.hid (HFN.out wr b g HR.out.rdr HR.out.upd)
   obtain ⟨n1, hm1⟩ := HR.out.map
   rw [List.take_length] at hm1
   have hle : n1 ≤ 500 := by
    have h1 := hm1.le (ptsL (allB base cs)) fun t k _ _ hx => by
     unfold comF at hx
     rw [Option.isSome_map] at hx
     obtain ⟨v, hv⟩ := Option.isSome_iff_exists.1 hx
     exact look_some_mem (rise_allB _ HK.out.bs) hv
    have h2 := HK.out.most
    simp [ptsL] at h1
    omega
   have q3 : (n1 : Int) ≤ 500 := by omega
   have HM1 := Lib.hid hm1
   have HLN : Hid (∀ W, Below wr.heap.size wr W → ∀ ty, (Builtin.len_ #[59] ty #[.map (some M)]).run Tryz.prog W = .ok (.int .i64 n1) W) := Lib.hid fun W hW ty => (HM1.out.below hW).len Tryz.underlying59 ty
   have HU1 := Lib.hid HR.out.upd
   clear hm1 hle HLF HFN HRD HTX
   go_wp2_with (first
    | (go_at_call 89; refine HL0.out.mono ?_; rintro e w2 ⟨rfl, rfl⟩)
    | (go_at_call 92; refine HFN2.out.mono ?_; rintro e w2 ⟨rfl, hb2⟩; have HB2 := Lib.hid hb2; have hln := HLN.out _ hb2; clear hb2))
   go_ret
   exact ⟨rfl, ⟨n1, HM1.out.below HB2.out⟩, HU1.out.trans (Upd.of_below (F := []) HB2.out) (fun x hx => absurd hx List.not_mem_nil)⟩
end Go.Proofs.YtlommddabccdeaaGreatDoor
