/-
  StpStands0.
-/
import Derived.Test.YticcdighfojjjaaGreatDoorQStpRights0
namespace Go.Proofs.YticcdighfojjjaaGreatDoor
open Go.ChangeShapes Go.WideShapes Go.ChangeAt Go.RowKit

theorem infoStr : (Tryz.prog.info? 9).map (fun i => (i.zero, i.size, i.bytes)) = some (some (.string ByteArray.empty), 1, 16) := by kernel_rfl
theorem row_kept {w w' : World} {B n size : Nat} {e : TypeId} {v : Value} {xs : List Value} (h : w.ownsRow B e size v n xs) (hb : Below w.heap.size w w') : w'.ownsRow B e size v n xs :=
  h.kept (row := none) ⟨hb.os, hb.tape, hb.output, hb.size, fun k hk _ => hb.block k hk⟩ (by cases hv : v.ownBlock <;> simp)
/-- A row of texts of a call's own, whatever they are, in a block that is not g2. -/
def OwnQ (w0 w : World) (v : Value) (n g2 : Nat) : Prop := (∃ xs, w.ownsRow w0.heap.size 9 1 v n xs) ∧ v.ownBlock ≠ some g2 ∧ g2 < w.heap.size ∧ Below w0.heap.size w0 w
theorem OwnQ.form {w0 w : World} {v : Value} {n g2 : Nat} (h : OwnQ w0 w v n g2) (h0 : 0 < n) : ∃ g c, v = .slice (some ⟨g, 0, none⟩) n c ∧ w0.heap.size ≤ g ∧ g ≠ g2 ∧ (∀ j, j < n → ∃ u, w.cell? ⟨g, j, none⟩ = some u) ∧ ∀ j, w.frozen? ⟨g, j, none⟩ = false := by
  obtain ⟨⟨xs, ho⟩, hne, _, _⟩ := h
  rcases ho.2 with ⟨h1, h2⟩ | ⟨g, cap, cur, h1, hB, hg, h4, _, h5, h6⟩
  · omega
  · refine ⟨g, cap, h1, hB, fun e => hne (by rw [h1, e]; rfl), fun j hj => ?_, fun j => by simp [World.frozen?, hg]⟩
    rw [cell_of_row w g j cur _ _ hg]
    exact ⟨_, Array.getElem?_eq_getElem (by omega)⟩
theorem OwnQ.set {w0 w : World} {g n c g2 : Nat} (h : OwnQ w0 w (.slice (some ⟨g, 0, none⟩) n c) n g2) (j : Nat) (u : ByteArray) : OwnQ w0 (w.setCell ⟨g, j, none⟩ (.string u)) (.slice (some ⟨g, 0, none⟩) n c) n g2 := by
  obtain ⟨⟨xs, ho⟩, hne, hlt, hb⟩ := h
  have hB : w0.heap.size ≤ g := by
    rcases ho.2 with ⟨h1, _⟩ | ⟨g', cap, cur, h1, hB, _⟩
    · cases h1
    · injection h1 with e _ _
      injection e with e
      injection e with e _ _
      omega
  refine ⟨⟨(xs.set j (.string u)), ?_⟩, hne, by simpa using hlt, hb.setCell (p := ⟨g, j, none⟩) hB _⟩
  obtain ⟨hl, h2⟩ := ho
  refine ⟨by simpa using hl, ?_⟩
  rcases h2 with ⟨h1, h2⟩ | ⟨g', cap, cur, h1, hB2, hg, h4, h4', h5, h6⟩
  · cases h1
  · injection h1 with e e2 e3
    injection e with e
    injection e with e _ _
    subst e e3
    refine .inr ⟨g, c, cur.setIfInBounds j (.string u), rfl, hB2, ?_, h4, h4', by simpa using h5, ?_⟩
    · simp [World.setCell, Array.getElem?_modify, hg]
    · rw [Array.toList_setIfInBounds, ← h6, List.take_set]
theorem Below.txts {w w' : World} {g : Nat} {ts : List ByteArray} (h : TxtsAt w (some ⟨g, 0, none⟩) ts) (hb : w'.heap[g]? = w.heap[g]?) (hl : w.heap.size ≤ w'.heap.size) : TxtsAt w' (some ⟨g, 0, none⟩) ts := fun k hk => by
  obtain ⟨b, off, e, hlt, hc⟩ := h k hk
  obtain ⟨rfl, rfl⟩ : g = b ∧ 0 = off := by simpa using e
  exact ⟨g, 0, rfl, by omega, by rw [World.cell?_of_block (a := ⟨g, 0 + k, none⟩) hb]; exact hc⟩
/-- One text more. -/
theorem appendQ {ops : Array Oper} {rest : List Oper} {o : Oper} {a : Act} {Q : Exit → Act → World → Prop} (hgd : o.guard = none) (s x : Operand)
    (ho : o.op = .call { callee := .builtin .append, args := #[s, x], argTypes := #[23, 23] }) {w0 w : World} {v : Value} {t : ByteArray} {n g2 : Nat} {ts : List ByteArray} (hown : OwnQ w0 w v n g2) (htx : TxtsAt w (some ⟨g2, 0, none⟩) ts) (hn : n ≤ 10000000000) (hs : a.eval s = v)
    {c g : Nat} (hx : a.eval x = .slice (some ⟨g, 0, none⟩) 1 c) (hg : g = w.heap.size)
    (h : ∀ y cap w', OwnQ w0 w' (.slice (some ⟨y, 0, none⟩) (n + 1) cap) (n + 1) g2 → TxtsAt w' (some ⟨g2, 0, none⟩) ts → wpList Tryz.prog ops Q rest (a.put o.dst (.slice (some ⟨y, 0, none⟩) (n + 1) cap)) w') :
    wpList Tryz.prog ops Q (o :: rest) a (w.alloc (Obj.cells #[.string t] 9)) := by
  subst hg
  obtain ⟨i0, hi, hz0, hz1, hz2⟩ := info_parts infoStr
  obtain ⟨⟨xs, ho1⟩, hne, hlt, hb⟩ := hown
  have hz := hb.size
  refine wpList_append_lies _ hgd s x _ ho w0.heap.size 9 i0 _ 1 16 Tryz.underlying23 hi hz0 hz1 hz2 rfl (by decide) v n xs hs (ho1.alloc _) ⟨w.heap.size, 0, none⟩ 1 c [.string t] hx rfl (World.news_of_block (heap_alloc_new w _)) ?_ (by decide) (by unfold maxLen; omega) (by omega) (by have := (below_one w (Obj.cells #[.string t] 9)).size; omega) _ rfl ?_
  · intro u' hu'
    rw [List.mem_singleton.1 hu']; rfl
  · intro y cap w1 h1 h2 h3 _
    have hy : y ≠ g2 := by
      rcases h3 with h3 | h3
      · exact fun e => hne (by rw [h3, e])
      · rw [h3]; simp; omega
    have hsz : w.heap.size ≤ w1.heap.size := Nat.le_trans (by simp) h2.size
    have hblk : w1.heap[g2]? = w.heap[g2]? := (h2.block g2 (by simp; omega) (fun e => hne e.symm)).trans ((below_one w _).block g2 hlt)
    exact h y cap w1 ⟨⟨_, by simpa using h1⟩, (fun e => hy (by injection e)), by omega, (hb.alloc hz _).grown h2 (by simp; omega) (fun k hk => (ho1.lt k hk).1)⟩ (Below.txts htx hblk hsz)
def valsB : List ByteArray := [⟨#[]⟩, ⟨#[48]⟩, ⟨#[55]⟩, ⟨#[48, 55]⟩, ⟨#[45, 49]⟩, ⟨#[50, 49, 52, 55, 52, 56, 51, 54, 52, 56]⟩, ⟨#[50, 49, 52, 55, 52, 56, 51, 54, 52, 57]⟩, ⟨#[97, 66, 99]⟩, ⟨#[32, 97, 9, 98, 32]⟩, ⟨#[9]⟩, ⟨#[122, 123, 64, 91]⟩, ⟨#[0, 255]⟩]
theorem vals_size : ∀ v ∈ valsB, v.size ≤ 10 := by
  intro v hv
  unfold valsB at hv
  simp only [List.mem_cons, List.not_mem_nil, or_false] at hv
  rcases hv with rfl | rfl | rfl | rfl | rfl | rfl | rfl | rfl | rfl | rfl | rfl | rfl <;> decide
def valCells : Array Value := #[.string ⟨#[]⟩, .string ⟨#[48]⟩, .string ⟨#[55]⟩, .string ⟨#[48, 55]⟩, .string ⟨#[45, 49]⟩, .string ⟨#[50, 49, 52, 55, 52, 56, 51, 54, 52, 56]⟩, .string ⟨#[50, 49, 52, 55, 52, 56, 51, 54, 52, 57]⟩, .string ⟨#[97, 66, 99]⟩, .string ⟨#[32, 97, 9, 98, 32]⟩, .string ⟨#[9]⟩, .string ⟨#[122, 123, 64, 91]⟩, .string ⟨#[0, 255]⟩]
theorem vals_cells : (valsB.map Value.string).toArray = valCells := by rfl
/-- .. and the names that stand. -/
structure StdN (w : World) : Prop where
  std : StdS w
  names : NamesW w
theorem StdN.below {w w' : World} (h : StdN w) (hb : Below w.heap.size w w') : StdN w' := ⟨h.std.below hb, h.names.below hb⟩
set_option maxHeartbeats 6400000 in
set_option maxRecDepth 100000 in
theorem stepStands_any (w : World) (hT : StdN w) :
    Calls Tryz.prog 3 #[] w fun e w' => e = .returned (.bool true) ∧ Below w.heap.size w w' := by
  have HT := Lib.hid (fun W hb => hT.below (w' := W) hb)
  have HAW := Lib.hid (lawake_any w hT.std)
  have HPF : Hid (∀ W, StdN W → Calls Tryz.prog 11 #[] W fun e w' => ∃ g c, e = .returned (.slice (some ⟨g, 0, none⟩) 5 c) ∧ (∃ xs, w'.ownsRow W.heap.size 9 1 (.slice (some ⟨g, 0, none⟩) 5 c) 5 xs) ∧ TxtsAt w' (some ⟨g, 0, none⟩) funcsB ∧ W.heap.size ≤ g ∧ g < w'.heap.size ∧ Below W.heap.size W w') := Lib.hid fun W hW => by
    refine (pfuncs_any W hW.names).mono ?_
    rintro e w' ⟨v, rfl, ho, hb⟩
    obtain ⟨g, c, rfl, h1, h2, h3⟩ := TxtsAt.of_own ho rfl (by decide)
    exact ⟨g, c, rfl, ⟨_, ho⟩, h1, h2, h3, hb⟩
  have HRF : Hid (∀ W, Calls Tryz.prog 13 #[] W fun e w' => ∃ g, e = .returned (.slice (some ⟨g, 0, none⟩) 5 5) ∧ TxtsAt w' (some ⟨g, 0, none⟩) funcsB ∧ Below W.heap.size W w') := Lib.hid fun W => by
    refine (sfuncs_any W).mono ?_
    rintro e w' ⟨rfl, rfl⟩
    refine ⟨_, rfl, fun k hk => ⟨_, 0, rfl, by simp, ?_⟩, below_one _ _⟩
    rw [Nat.zero_add, cell_of_row _ _ k _ _ _ (heap_alloc_new W _), ← funcs_cells]
    simp [hk]
  clear hT
  go_enter Tryz.func3, Tryz.ntmps3
  go_wp2_with fail
  refine HAW.out.mono ?_
  rintro e w1 ⟨rfl, hb⟩
  have HB1 := Lib.hid hb
  clear hb HAW
  go_wp2_with fail
  refine (HPF.out _ (HT.out _ HB1.out)).mono ?_
  rintro e w2 ⟨ga, ca, rfl, hoa, hta, hga, hga2, hb⟩
  have HB2 := Lib.hid (HB1.out.trans (hb.mono HB1.out.size))
  have HOA := Lib.hid hoa
  have HTA := Lib.hid hta
  have HGA := Lib.hid (And.intro (Nat.le_trans HB1.out.size hga) hga2)
  have HW12 := Lib.hid hb
  clear hoa hta hga hga2 hb
  go_wp2_with fail
  refine (HPF.out _ (HT.out _ HB2.out)).mono ?_
  rintro e w3 ⟨gb, cb, rfl, _, htb, hgb, hgb2, hb⟩
  have HB3 := Lib.hid (HB2.out.trans (hb.mono HB2.out.size))
  have HTB := Lib.hid htb
  have HGB := Lib.hid hgb2
  have HNE : Hid (ga ≠ gb) := Lib.hid (by have := HGA.out; omega)
  have HOA3 : Hid (∃ xs, w3.ownsRow w1.heap.size 9 1 (.slice (some ⟨ga, 0, none⟩) 5 ca) 5 xs) := Lib.hid (by
    obtain ⟨xs, ho⟩ := HOA.out
    exact ⟨xs, row_kept ho hb⟩)
  have HTA3 := Lib.hid (HTA.out.below hb)
  have HW13 := Lib.hid (HW12.out.trans (hb.mono HW12.out.size))
  clear htb hgb hgb2 hb HB2 HTA HOA HW12
  go_wp2_with fail
  refine (HRF.out _).mono ?_
  rintro e w4 ⟨gr, rfl, htr, hb⟩
  have HB4 := Lib.hid (HB3.out.trans (hb.mono HB3.out.size))
  have HTR := Lib.hid htr
  have HTA4 := Lib.hid (HTA3.out.below hb)
  have HTB4 := Lib.hid (HTB.out.below hb)
  have HOA4 : Hid (∃ xs, w4.ownsRow w1.heap.size 9 1 (.slice (some ⟨ga, 0, none⟩) 5 ca) 5 xs) := Lib.hid (by
    obtain ⟨xs, ho⟩ := HOA3.out
    exact ⟨xs, row_kept ho hb⟩)
  have HW14 := Lib.hid (HW13.out.trans (hb.mono HW13.out.size))
  have HGB4 : Hid (gb < w4.heap.size) := Lib.hid (Nat.lt_of_lt_of_le HGB.out hb.size)
  clear htr hb HB3 HTA3 HTB HOA3 HW13 HGB
  go_wp2_with fail
  refine (ltexts_any funcsB _ _ 5 ca 5 _ HTA4.out HTR.out rfl (by omega)).mono ?_
  rintro e w5 ⟨rfl, hb⟩
  have HQ : Hid (OwnQ w1 w5 (.slice (some ⟨ga, 0, none⟩) 5 ca) 5 gb ∧ TxtsAt w5 (some ⟨gb, 0, none⟩) funcsB) := Lib.hid (by
    obtain ⟨xs, ho⟩ := HOA4.out
    exact ⟨⟨⟨xs, row_kept ho hb⟩, (fun e => HNE.out (by injection e)), Nat.lt_of_lt_of_le HGB4.out hb.size, HW14.out.trans (hb.mono HW14.out.size)⟩, HTB4.out.below hb⟩)
  clear hb HB4 HTA4 HTB4 HOA4 HW14 HGB4 HTR HNE HGA
  go_wp2
  go_loopw [5] (fun i wr => ∃ t : Nat, i = .int .i64 t ∧ t ≤ 5 ∧ Hid (OwnQ w1 wr (.slice (some ⟨ga, 0, none⟩) 5 ca) 5 gb ∧ TxtsAt wr (some ⟨gb, 0, none⟩) funcsB)) (fun i _ => 5 - (intOf i).toNat)
  case atStart => exact ⟨0, rfl, by omega, HQ⟩
  case round =>
    clear HQ
    obtain ⟨t, rfl, ht, HQ⟩ := hrel
    by_cases hlt : t < 5
    · obtain ⟨g, c, he, _, hne, hcell, hfz⟩ := HQ.out.1.form (by omega)
      obtain ⟨rfl, rfl⟩ : ga = g ∧ ca = c := by simpa using he
      obtain ⟨u, hu⟩ := hcell t hlt
      have hz := hfz t
      have HQ2 : Hid (OwnQ w1 (wr.setCell ⟨ga, t, none⟩ (.string ⟨#[111, 118, 101, 114]⟩)) (.slice (some ⟨ga, 0, none⟩) 5 ca) 5 gb ∧ TxtsAt (wr.setCell ⟨ga, t, none⟩ (.string ⟨#[111, 118, 101, 114]⟩)) (some ⟨gb, 0, none⟩) funcsB) := Lib.hid ⟨HQ.out.1.set t _, Below.txts HQ.out.2 (Below.heap_setCell _ _ _ _ (fun e => hne e.symm)) (by simp [World.setCell])⟩
      have q1 : (0 : Int) ≤ t := by omega
      have q2 : (t : Int) < 5 := by omega
      clear he hne hcell hfz HQ
      go_wp2
      go_roundw
      case rel => exact ⟨t + 1, by go_num, by omega, HQ2⟩
      case measure => simp [intOf]; omega
    · have q2 : ¬ (t : Int) < 5 := by omega
      go_wp2
      go_loopw [2, 6] (fun vv i wr => ∃ (t : Nat) (g : Nat) (n c : Nat), Value.slice (some ⟨g, 0, none⟩) n c = vv ∧ i = .int .i64 t ∧ t ≤ 9 ∧ n ≤ 100 + t ∧ Hid (OwnQ w1 wr (.slice (some ⟨g, 0, none⟩) n c) n gb ∧ TxtsAt wr (some ⟨gb, 0, none⟩) funcsB)) (fun _ i _ => 9 - (intOf i).toNat)
      case atStart => exact ⟨0, ga, 5, ca, rfl, rfl, by omega, by omega, HQ⟩
      case round =>
        clear HQ q2
        obtain ⟨s, g, n, c, rfl, rfl, hs, hn, HQ⟩ := hrel
        by_cases hlt9 : s < 9
        · have q1 : (0 : Int) ≤ s := by omega
          have q2 : (s : Int) < 9 := by omega
          go_wp2_with (at_builtin; refine appendQ rfl _ _ rfl HQ.out.1 HQ.out.2 (by omega) rfl rfl rfl ?_; intro y cap w6 ho ht2; have HQ2 := Lib.hid (And.intro ho ht2); clear ho ht2)
          go_roundw
          case rel => exact ⟨s + 1, y, n + 1, cap, rfl, by go_num, by omega, by omega, HQ2⟩
          case measure => simp [intOf]; omega
        · have q2 : ¬ (s : Int) < 9 := by omega
          have HB6 : Hid (Below w.heap.size w wr) := Lib.hid (HB1.out.trans (HQ.out.1.2.2.2.mono HB1.out.size))
          have HTB6 := Lib.hid HQ.out.2
          clear HQ
          go_wp2_with fail
          refine (HPF.out _ (HT.out _ HB6.out)).mono ?_
          rintro e w7 ⟨gc, cc, rfl, _, htc, _, _, hb⟩
          have HB7 := Lib.hid (HB6.out.trans (hb.mono HB6.out.size))
          have HTB7 := Lib.hid (HTB6.out.below hb)
          have HTC7 := Lib.hid htc
          clear htc hb HB6 HTB6
          go_wp2_with fail
          refine (HRF.out _).mono ?_
          rintro e w8 ⟨gr2, rfl, htr, hb⟩
          have HB8 := Lib.hid (HB7.out.trans (hb.mono HB7.out.size))
          have HTB8 := Lib.hid (HTB7.out.below hb)
          have HTC8 := Lib.hid (HTC7.out.below hb)
          have HTR8 := Lib.hid htr
          clear htr hb HB7 HTB7 HTC7
          go_wp2_with fail
          refine (ltexts_any funcsB _ _ 5 cb 5 _ HTB8.out HTR8.out rfl (by omega)).mono ?_
          rintro e w9 ⟨rfl, hb⟩
          have HB9 := Lib.hid (HB8.out.trans (hb.mono HB8.out.size))
          have HTC9 := Lib.hid (HTC8.out.below hb)
          clear hb HB8 HTB8 HTC8 HTR8
          go_wp2_with fail
          refine (HRF.out _).mono ?_
          rintro e w10 ⟨gr3, rfl, htr, hb⟩
          have HB10 := Lib.hid (HB9.out.trans (hb.mono HB9.out.size))
          have HTC10 := Lib.hid (HTC9.out.below hb)
          have HTR10 := Lib.hid htr
          clear htr hb HB9 HTC9
          go_wp2_with fail
          refine (ltexts_any funcsB _ _ 5 cc 5 _ HTC10.out HTR10.out rfl (by omega)).mono ?_
          rintro e w11 ⟨rfl, hb⟩
          have HB11 := Lib.hid (HB10.out.trans (hb.mono HB10.out.size))
          have HTC11 := Lib.hid (HTC10.out.below hb)
          clear hb HB10 HTC10 HTR10 HRF HPF
          have HVC0 : Hid (∀ W : World, TxtsAt (W.alloc (Obj.cells valCells 9)) (some ⟨W.heap.size, 0, none⟩) valsB) := Lib.hid fun W k hk => ⟨_, 0, rfl, by simp, by
            rw [Nat.zero_add, cell_of_row _ _ k _ _ _ (heap_alloc_new W _), ← vals_cells]
            simp [hk]⟩
          unfold valCells at HVC0
          go_wp2
          have HVC := Lib.hid (HVC0.out w11)
          have HB12 := Lib.hid (fun o => HB11.out.trans ((below_one w11 o).mono HB11.out.size))
          have HTC12 := Lib.hid (fun o => HTC11.out.below (below_one w11 o))
          have HVZ := Lib.hid vals_size
          have HFZ := Lib.hid funcs_len
          have hvl : valsB.length = 12 := rfl
          have hfl : funcsB.length = 5 := rfl
          obtain ⟨w12, hw12⟩ : ∃ w12, w11.alloc (Obj.cells #[.string ⟨#[]⟩, .string ⟨#[48]⟩, .string ⟨#[55]⟩, .string ⟨#[48, 55]⟩, .string ⟨#[45, 49]⟩, .string ⟨#[50, 49, 52, 55, 52, 56, 51, 54, 52, 56]⟩, .string ⟨#[50, 49, 52, 55, 52, 56, 51, 54, 52, 57]⟩, .string ⟨#[97, 66, 99]⟩, .string ⟨#[32, 97, 9, 98, 32]⟩, .string ⟨#[9]⟩, .string ⟨#[122, 123, 64, 91]⟩, .string ⟨#[0, 255]⟩] 9) = w12 := ⟨_, rfl⟩
          obtain ⟨V, hV⟩ : ∃ V, w11.heap.size = V := ⟨_, rfl⟩
          have HB13 := Lib.hid (HB12.out (Obj.cells #[.string ⟨#[]⟩, .string ⟨#[48]⟩, .string ⟨#[55]⟩, .string ⟨#[48, 55]⟩, .string ⟨#[45, 49]⟩, .string ⟨#[50, 49, 52, 55, 52, 56, 51, 54, 52, 56]⟩, .string ⟨#[50, 49, 52, 55, 52, 56, 51, 54, 52, 57]⟩, .string ⟨#[97, 66, 99]⟩, .string ⟨#[32, 97, 9, 98, 32]⟩, .string ⟨#[9]⟩, .string ⟨#[122, 123, 64, 91]⟩, .string ⟨#[0, 255]⟩] 9))
          have HTC13 := Lib.hid (HTC12.out (Obj.cells #[.string ⟨#[]⟩, .string ⟨#[48]⟩, .string ⟨#[55]⟩, .string ⟨#[48, 55]⟩, .string ⟨#[45, 49]⟩, .string ⟨#[50, 49, 52, 55, 52, 56, 51, 54, 52, 56]⟩, .string ⟨#[50, 49, 52, 55, 52, 56, 51, 54, 52, 57]⟩, .string ⟨#[97, 66, 99]⟩, .string ⟨#[32, 97, 9, 98, 32]⟩, .string ⟨#[9]⟩, .string ⟨#[122, 123, 64, 91]⟩, .string ⟨#[0, 255]⟩] 9))
          rw [hw12] at HB13 HTC13 HVC
          rw [hV] at HVC
          rw [hw12, hV]
          clear hw12 hV HVC0 HB12 HTC12 HB11 HTC11
          go_loopw [11] (fun i wr => ∃ t : Nat, i = .int .i64 t ∧ t ≤ 5 ∧ Hid (Below w12.heap.size w12 wr)) (fun i _ => 5 - (intOf i).toNat)
          case atStart => exact ⟨0, rfl, by omega, Lib.hid (Below.refl _ _)⟩
          case round =>
            clear q2
            obtain ⟨p, rfl, hp, HBP⟩ := hrel
            obtain ⟨wo, rfl⟩ : ∃ wo, wo = wr := ⟨_, rfl⟩
            by_cases hlp : p < 5
            · have q1 : (0 : Int) ≤ p := by omega
              have q2 : (p : Int) < 5 := by omega
              have HPX : Hid (p < funcsB.length) := Lib.hid (by omega)
              go_wp2
              go_loopw [12] (fun i wr => ∃ t : Nat, i = .int .i64 t ∧ t ≤ 12 ∧ Hid (Below w12.heap.size w12 wr)) (fun i _ => 12 - (intOf i).toNat)
              case atStart => exact ⟨0, rfl, by omega, HBP⟩
              case round =>
                clear HBP
                obtain ⟨q, rfl, hq, HBQ⟩ := hrel
                by_cases hlq : q < 12
                · have hqx : q < valsB.length := by omega
                  obtain ⟨b1, o1, e1, _, c1⟩ := (HTC13.out.below HBQ.out) p HPX.out
                  obtain ⟨b2, o2, e2, _, c2⟩ := (HVC.out.below HBQ.out) q hqx
                  obtain ⟨rfl, rfl⟩ : gc = b1 ∧ 0 = o1 := by simpa using e1
                  obtain ⟨rfl, rfl⟩ : V = b2 ∧ 0 = o2 := by simpa using e2
                  rw [Nat.zero_add] at c1 c2
                  have z1 := HFZ.out _ (List.getElem_mem HPX.out)
                  have z2 := HVZ.out _ (List.getElem_mem hqx)
                  have q3 : (0 : Int) ≤ q := by omega
                  have q4 : (q : Int) < 12 := by omega
                  generalize funcsB[p]'HPX.out = nm at c1 z1
                  generalize valsB[q] = vl at c2 z2
                  have HPC : Hid (∀ W, Below w.heap.size w W → Calls Tryz.prog 14 #[.string nm, .string vl] W fun e w' => e = .returned (.tuple #[.string (callV nm vl).1, .int .i64 (callV nm vl).2]) ∧ Below W.heap.size W w') := Lib.hid fun W hb => pcall_any nm vl W (by omega) (by omega) (HT.out W hb).std
                  have HSC : Hid (∀ W, Calls Tryz.prog 15 #[.string nm, .string vl] W fun e w' => e = .returned (.tuple #[.string (callV nm vl).1, .int .i64 (callV nm vl).2]) ∧ Below W.heap.size W w') := Lib.hid fun W => scall_any nm vl W (by unfold maxLen; omega)
                  generalize (callV nm vl).1 = rs at HPC HSC
                  generalize (callV nm vl).2 = re at HPC HSC
                  have he : (rs.toList == rs.toList) = true := by simp
                  have he2 : (re == re) = true := by simp
                  have HCC : Hid (∀ W, Below wr.heap.size wr W → W.cell? ⟨gc, p, none⟩ = some (.string nm) ∧ W.cell? ⟨V, q, none⟩ = some (.string vl)) := Lib.hid fun W hb => ⟨(hb.cell (lt_of_cell c1)).trans c1, (hb.cell (lt_of_cell c2)).trans c2⟩
                  have HBW : Hid (∀ W, Below wr.heap.size wr W → Below w.heap.size w W ∧ Below w12.heap.size w12 W) := Lib.hid fun W hb => ⟨HB13.out.trans ((HBQ.out.trans (hb.mono HBQ.out.size)).mono HB13.out.size), HBQ.out.trans (hb.mono HBQ.out.size)⟩
                  clear e1 e2 z1 z2 hqx HBQ
                  go_wp2
                  go_region_held3 (fun W => W.cell? ⟨gc, p, none⟩ = some (.string nm) ∧ W.cell? ⟨V, q, none⟩ = some (.string vl)) (first | exact ⟨c1, c2⟩ | exact z5) (first | (go_at_call 14; (with_reducible refine (HPC.out _ (HBW.out _ (below_d wr)).1).mono ?_); rintro e w13 ⟨rfl, hb5⟩; have z5 := HCC.out w13 ((below_d wr).trans (hb5.mono (Nat.le_refl _)))))
                  all_goals
                    obtain ⟨k1, k2⟩ := z5
                    go_wp2
                    go_region_held3 (fun W => W.cell? ⟨gc, p, none⟩ = some (.string nm) ∧ W.cell? ⟨V, q, none⟩ = some (.string vl)) (first | exact ⟨k1, k2⟩ | exact z6) (first | (go_at_call 15; (with_reducible refine (HSC.out _).mono ?_); rintro e w14 ⟨rfl, hb6⟩; have z6 := HCC.out w14 (((below_d wr).trans (hb5.mono (Nat.le_refl _))).trans (((below_d w13).trans (hb6.mono (Nat.le_refl _))).mono hb5.size))))
                    all_goals
                      have HB14 := Lib.hid (HBW.out w14 (((below_d wr).trans (hb5.mono (Nat.le_refl _))).trans (((below_d w13).trans (hb6.mono (Nat.le_refl _))).mono hb5.size))).2
                      clear z6 hb5 hb6 HPC HSC HCC HBW c1 c2 k1 k2
                      go_wp2
                      go_roundw
                      case rel => exact ⟨q + 1, by go_num, by omega, HB14⟩
                      case measure => simp [intOf]; omega
                · have q3 : ¬ (q : Int) < 12 := by omega
                  go_wp2
                  go_roundw
                  case rel => exact ⟨p + 1, by go_num, by omega, HBQ⟩
                  case measure => simp [intOf]; omega
            · have q2 : ¬ (p : Int) < 5 := by omega
              have HBE := Lib.hid (HB13.out.trans (HBP.out.mono HB13.out.size))
              go_wp2
              go_ret
              exact ⟨rfl, HBE.out⟩
set_option maxHeartbeats 3200000 in
set_option maxRecDepth 100000 in
theorem stepCalls_any (n s : ByteArray) (w : World) (hn : n.size ≤ maxLen) (hs : s.size ≤ maxLen) (hT : StdN w) :
    Calls Tryz.prog 4 #[.string n, .string s] w fun e w' => e = .returned (.bool true) ∧ Below w.heap.size w w' := by
  unfold maxLen at hn hs
  have HT := Lib.hid (fun W hb => hT.below (w' := W) hb)
  have HAU := Lib.hid (addU_any n.size s.size w (by omega) (by omega))
  have HST : Hid (∀ W, Below w.heap.size w W → Calls Tryz.prog 3 #[] W fun e w' => e = .returned (.bool true) ∧ Below W.heap.size W w') := Lib.hid fun W hb => stepStands_any W (hT.below hb)
  have HPC : Hid (n.size ≤ 2147483647 → s.size ≤ 2147483647 → ∀ W, Below w.heap.size w W → Calls Tryz.prog 14 #[.string n, .string s] W fun e w' => e = .returned (.tuple #[.string (callV n s).1, .int .i64 (callV n s).2]) ∧ Below W.heap.size W w') := Lib.hid fun h1 h2 W hb => pcall_any n s W h1 h2 (hT.below hb).std
  have HSC : Hid (∀ W, Calls Tryz.prog 15 #[.string n, .string s] W fun e w' => e = .returned (.tuple #[.string (callV n s).1, .int .i64 (callV n s).2]) ∧ Below W.heap.size W w') := Lib.hid fun W => scall_any n s W (by unfold maxLen; omega)
  generalize (callV n s).1 = rs at HPC HSC
  generalize (callV n s).2 = re at HPC HSC
  have he : (rs.toList == rs.toList) = true := by simp
  have he2 : (re == re) = true := by simp
  clear hn hs hT
  go_enter Tryz.func4, Tryz.ntmps4
  go_wp2_with fail
  refine HAU.out.mono ?_
  rintro e w' ⟨rfl, rfl⟩
  by_cases hbig : 2147483647 < addU n.size s.size
  · have g0 : (2147483647 : Int) < (addU n.size s.size : Nat) := by omega
    go_wp2
    go_ret
    exact ⟨rfl, Below.refl _ _⟩
  have g0 : ¬ (2147483647 : Int) < (addU n.size s.size : Nat) := by omega
  obtain ⟨h1, h2⟩ := addU_in (by omega : addU n.size s.size ≤ 2147483647)
  have HPC2 := Lib.hid (HPC.out h1 h2)
  generalize addU n.size s.size = N at g0 ⊢
  clear h1 h2 hbig HPC HAU
  go_wp2_with fail
  refine (HPC2.out _ (Below.refl _ _)).mono ?_
  rintro e w2 ⟨rfl, hb⟩
  have HB2 := Lib.hid hb
  clear hb
  go_wp2_with fail
  refine (HSC.out _).mono ?_
  rintro e w3 ⟨rfl, hb⟩
  have HB3 := Lib.hid (HB2.out.trans (hb.mono HB2.out.size))
  clear hb HB2
  go_wp2_with fail
  refine (HST.out _ HB3.out).mono ?_
  rintro e w4 ⟨rfl, hb⟩
  have HB4 := Lib.hid (HB3.out.trans (hb.mono HB3.out.size))
  clear hb HB3
  go_wp2_with fail
  refine (HPC2.out _ HB4.out).mono ?_
  rintro e w5 ⟨rfl, hb⟩
  have HB5 := Lib.hid (HB4.out.trans (hb.mono HB4.out.size))
  clear hb HB4
  go_wp2
  go_ret
  exact ⟨rfl, HB5.out⟩
end Go.Proofs.YticcdighfojjjaaGreatDoor
