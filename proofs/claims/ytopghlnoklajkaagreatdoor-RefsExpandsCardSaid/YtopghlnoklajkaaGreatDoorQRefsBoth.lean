/-
  RefsBoth.
-/
import Derived.Test.YtopghlnoklajkaaGreatDoorQRefsBothK
import Derived.Test.YtopghlnoklajkaaGreatDoorQSetMerge
import Derived.Test.YtopghlnoklajkaaGreatDoorQRefsLaid
import Derived.Test.YtopghlnoklajkaaGreatDoorQRefsStd
import Derived.Deep.CutBlock
import Derived.Deep.CutRange
import Derived.Test.YtopghlnoklajkaaGreatDoorQSetAll2
namespace Go.Proofs.YtopghlnoklajkaaGreatDoor
open Go.ChangeShapes Go.WideShapes Go.ChangeAt Go.RowKit

def PutIs (ks : List KeyV) (ms : List SetM) (s : ByteArray) (v : Val) (fr : Int) (E : Int) (ms' : List SetM) : Prop :=
  (placeN (namesM ms) s = -1 ∧ E = 90 ∧ ms' = ms) ∨ ∃ j, ∃ h : j < ms.length, ∃ h2 : j < ks.length, placeN (namesM ms) s = (j : Int) ∧
    ((mayV ks[j] v = false ∧ E = 91 ∧ ms' = ms) ∨ (mayV ks[j] v = true ∧ ¬ (0 ≤ fr ∧ fr ≤ 5) ∧ E = 1 ∧ ms' = ms) ∨
     (mayV ks[j] v = true ∧ (0 ≤ fr ∧ fr ≤ 5) ∧ E = 0 ∧ ∃ y d, ms' = ms.set j ⟨⟨ms[j].x.name, v, fr⟩, y, d⟩))
theorem PutIs.ok {ks : List KeyV} {ms ms' : List SetM} {s : ByteArray} {v : Val} {fr E : Int} (h : PutIs ks ms s v fr E ms') (hok : LayOk ks ms) : LayOk ks ms' := by
  rcases h with ⟨_, _, rfl⟩ | ⟨j, h1, h2, _, ⟨_, _, rfl⟩ | ⟨_, _, _, rfl⟩ | ⟨hm, hf, _, y, d, rfl⟩⟩
  · exact hok
  · exact hok
  · exact hok
  · refine ⟨by rw [List.length_set]; exact hok.len, fun i hi hi2 => ?_, fun i hi hi2 => ?_, fun m hmem => ?_⟩
    · rw [List.length_set] at hi
      rw [List.getElem_set]
      split
      · rename_i e; subst e; exact hok.names j hi hi2
      · exact hok.names i hi hi2
    · rw [List.length_set] at hi
      rw [List.getElem_set]
      split
      · rename_i e; subst e; exact hm
      · exact hok.may i hi hi2
    · rcases List.mem_or_eq_of_mem_set hmem with hmem | rfl
      · exact hok.from_ m hmem
      · exact hf
theorem PutIs.same {ks : List KeyV} {ms ns ms' ns' : List SetM} {s : ByteArray} {v : Val} {fr E E2 : Int} (h : PutIs ks ms s v fr E ms') (h2 : PutIs ks ns s v fr E2 ns') (hs : ns.map (·.x) = ms.map (·.x)) : E = E2 ∧ ns'.map (·.x) = ms'.map (·.x) := by
  have hn : namesM ns = namesM ms := by
    have := congrArg (List.map SetV.name) hs
    rw [List.map_map, List.map_map] at this
    exact this
  have hl : ns.length = ms.length := len_of_same hs
  unfold PutIs at h2
  rw [hn] at h2
  rcases h with ⟨p, rfl, rfl⟩ | ⟨j, h1, hk, p, h⟩
  · rcases h2 with ⟨_, rfl, rfl⟩ | ⟨j, _, _, q, _⟩
    · exact ⟨rfl, hs⟩
    · omega
  · rcases h2 with ⟨q, _, _⟩ | ⟨j2, h3, h4, q, h2⟩
    · omega
    · obtain rfl : j2 = j := by omega
      rcases h with ⟨a, rfl, rfl⟩ | ⟨a, b, rfl, rfl⟩ | ⟨a, b, rfl, y, d, rfl⟩
      · rcases h2 with ⟨c, rfl, rfl⟩ | ⟨c, _⟩ | ⟨c, _⟩
        · exact ⟨rfl, hs⟩
        · rw [a] at c; cases c
        · rw [a] at c; cases c
      · rcases h2 with ⟨c, _⟩ | ⟨c, _, rfl, rfl⟩ | ⟨c, e, _⟩
        · rw [a] at c; cases c
        · exact ⟨rfl, hs⟩
        · exact absurd e b
      · rcases h2 with ⟨c, _⟩ | ⟨c, e, _⟩ | ⟨c, e, rfl, y2, d2, rfl⟩
        · rw [a] at c; cases c
        · exact absurd b e
        · refine ⟨rfl, ?_⟩
          rw [List.map_set, List.map_set, hs]
          congr 1
          have := map_at hs j2 (by omega) h1
          rw [this]
theorem lput_is {F : Nat → Prop} {w w' : World} {X : Nat} {dx hx : Option Addr} {dc hc : Nat} {ks : List KeyV} {ms : List SetM} {s : ByteArray} {v : Val} {fr : Int} {e : Ending} (hl : LayAt F w X dx dc hx hc ks ms) (h : LpRes F w X dx dc ks ms s v fr e w') :
    ∃ E F' hx' hc' ms', e = .returned (.int .i64 E) ∧ But X w w' ∧ LayAt F' w' X dx dc hx' hc' ks ms' ∧ (∀ b, F' b → F b ∨ w.heap.size ≤ b) ∧ PutIs ks ms s v fr E ms' := by
  obtain ⟨E, rfl, ⟨p, rfl, hb⟩ | ⟨j, h1, h2, p, ⟨a, rfl, hb⟩ | ⟨a, c, rfl, hb⟩ | ⟨a, c, rfl, hx', hc', y, d, hl', hb⟩⟩⟩ := h
  · exact ⟨_, F, hx, hc, ms, rfl, .of_below hb, hl.below hb, fun b h => .inl h, .inl ⟨p, rfl, rfl⟩⟩
  · exact ⟨_, F, hx, hc, ms, rfl, .of_below hb, hl.below hb, fun b h => .inl h, .inr ⟨j, h1, h2, p, .inl ⟨a, rfl, rfl⟩⟩⟩
  · exact ⟨_, F, hx, hc, ms, rfl, .of_below hb, hl.below hb, fun b h => .inl h, .inr ⟨j, h1, h2, p, .inr (.inl ⟨a, c, rfl, rfl⟩)⟩⟩
  · exact ⟨_, _, hx', hc', _, rfl, hb, hl', fun b h => h.imp id fun h => h.1, .inr ⟨j, h1, h2, p, .inr (.inr ⟨a, c, rfl, y, d, rfl⟩)⟩⟩
theorem sput_is {B : Nat} {w w' : World} {lv : Value} {ks : List KeyV} {ns : List SetM} {s : ByteArray} {v : Val} {fr : Int} {e : Ending} (hs : SetsAt B w lv ns) (h : PutRes B w lv ks ns s v fr e w') :
    ∃ E ns', e = .returned (.int .i64 E) ∧ w.grownBy w' lv.ownBlock ∧ SetsAt B w' lv ns' ∧ PutIs ks ns s v fr E ns' := by
  have hgb : Below w.heap.size w w' → w.grownBy w' lv.ownBlock := fun hb => ⟨hb.os, hb.tape, hb.output, hb.size, fun k hk _ => hb.block k hk⟩
  obtain ⟨E, rfl, ⟨p, rfl, hb⟩ | ⟨j, h1, h2, p, ⟨a, rfl, hb⟩ | ⟨a, c, rfl, hb⟩ | ⟨a, c, rfl, y, d, hs', hg⟩⟩⟩ := h
  · exact ⟨_, ns, rfl, hgb hb, hs.below hb, .inl ⟨p, rfl, rfl⟩⟩
  · exact ⟨_, ns, rfl, hgb hb, hs.below hb, .inr ⟨j, h1, h2, p, .inl ⟨a, rfl, rfl⟩⟩⟩
  · exact ⟨_, ns, rfl, hgb hb, hs.below hb, .inr ⟨j, h1, h2, p, .inr (.inl ⟨a, c, rfl, rfl⟩)⟩⟩
  · exact ⟨_, _, rfl, hg, hs', .inr ⟨j, h1, h2, p, .inr (.inr ⟨a, c, rfl, y, d, rfl⟩)⟩⟩
def FitK (xs : List KeyV) : Prop := ∀ k ∈ xs, k.dflt.size ≤ 2147483647
theorem FitK.add {xs : List KeyV} (h : FitK xs) {k : KeyV} (hk : k.dflt.size ≤ 2147483647) : FitK (addK xs k) := by
  intro x hx
  unfold addK at hx
  split at hx
  · unfold insK at hx
    rcases List.mem_append.1 hx with hx | hx
    · exact h x (List.mem_of_mem_take hx)
    · rcases List.mem_cons.1 hx with rfl | hx
      · exact hk
      · exact h x (List.mem_of_mem_drop hx)
  · exact h x hx
theorem FitK.std : FitK stdL := fun k hk => by
  have h : (stdL.all fun k => decide (k.dflt.size ≤ 2147483647)) = true := by kernel_rfl
  exact of_decide_eq_true (List.all_eq_true.1 h k hk)
def SB (w0 w : World) (S X : Nat) (xs ys : List KeyV) : Prop := ∃ x c y d, SetAt w S x c xs ∧ (GoodK xs ∧ FitK xs) ∧ SetAt w X y d ys ∧ ys.Perm xs ∧ Below w0.heap.size w0 w
def BothRes (w : World) (e : Ending) (w' : World) : Prop := ∃ B F X Y dx dc hx hc ks ms yk ck lv ns, e = .returned (.tuple #[.pointer (some ⟨X, 0, none⟩), .pointer (some ⟨Y, 0, none⟩), .bool true]) ∧ GoodK ks ∧ w.heap.size ≤ B ∧ Both B w w' F X Y dx dc hx hc ks ms yk ck lv ns
set_option maxHeartbeats 6400000 in
set_option maxRecDepth 100000 in
theorem both_any (xk yp : Option Addr) (ck cp : Nat) (ls : List KeyV) (ps : List PutV) (w : World) (hK : KeysAt w xk ls) (hn : ls.length ≤ 4294967280) (hz : ∀ l ∈ ls, l.name.size ≤ 2147483647 ∧ l.dflt.size ≤ 2147483647 ∧ l.letter.size ≤ 2147483647)
    (hP : PutsAt w yp ps) (hpn : ps.length ≤ 4294967280) (hpz : ∀ p ∈ ps, p.text.size ≤ 2147483647 ∧ (-9223372036854775808 ≤ p.at_ ∧ p.at_ ≤ 9223372036854775807) ∧ (-9223372036854775808 ≤ p.from_ ∧ p.from_ ≤ 9223372036854775807)) (hS : Std w) :
    Calls Tryz.prog 13 #[.slice xk ls.length ck, .slice yp ps.length cp] w (BothRes w) := by
  have HL := Lib.hid hK
  have HZ := Lib.hid hz
  have HPS := Lib.hid hP
  have HPZ := Lib.hid hpz
  have HSB : Hid (∀ W, Below w.heap.size w W → Std W) := Lib.hid fun W hb => hS.below hb
  have HST := Lib.hid (standard_any w hS.tab hS.units hS.maxI)
  have HRS : Hid (∀ W, Calls Tryz.prog 29 #[] W fun e w' => e = .returned (.pointer (some ⟨W.heap.size + 1, 0, none⟩)) ∧ SetAt w' (W.heap.size + 1) (some ⟨W.heap.size, 0, none⟩) 16 stdL ∧ Below W.heap.size W w') := Lib.hid fun W => refStandard_any W
  have HNW : Hid (∀ W, Calls Tryz.prog 30 #[] W fun e w' => e = .returned (.pointer (some ⟨W.heap.size, 0, none⟩)) ∧ SetAt w' W.heap.size none 0 [] ∧ Below W.heap.size W w') := Lib.hid fun W => new_any W
  have HRN : Hid (∀ W, Calls Tryz.prog 31 #[] W fun e w' => e = .returned (.pointer (some ⟨W.heap.size, 0, none⟩)) ∧ Below W.heap.size W w' ∧ w'.cell? ⟨W.heap.size, 0, none⟩ = some (.slice none 0 0) ∧ w'.frozen? ⟨W.heap.size, 0, none⟩ = false) := Lib.hid fun W => refNew_any W
  obtain ⟨n, hn'⟩ : ∃ n, ls.length = n := ⟨_, rfl⟩
  obtain ⟨np, hnp'⟩ : ∃ n, ps.length = n := ⟨_, rfl⟩
  have HN := Lib.hid (And.intro hn' hnp')
  rw [hn'] at hn ⊢
  rw [hnp'] at hpn ⊢
  clear hK hz hP hpz hS hn' hnp'
  go_enter Tryz.func13, Tryz.ntmps13
  go_wp2_with fail
  refine HST.out.mono ?_
  rintro e w1 ⟨S, rfl, hs⟩
  have HS1 := Lib.hid hs
  clear hs HST
  go_wp2_with fail
  refine (HRS.out _).mono ?_
  rintro e w2 ⟨rfl, hx, hb2⟩
  have HB2 : Hid (Below w.heap.size w w2) := Lib.hid (HS1.out.below.trans (hb2.mono HS1.out.below.size))
  have HA0 : Hid (∃ xs ys, SB w w2 S (w1.heap.size + 1) xs ys) := Lib.hid (by
    obtain ⟨x, c, hsa⟩ := HS1.out.set
    exact ⟨stdL, stdL, x, c, _, _, hsa.below hb2, ⟨sx_good, FitK.std⟩, hx, List.Perm.refl _, HB2.out⟩)
  clear hx hb2 HRS HS1
  obtain ⟨X1, hX1⟩ : ∃ X, w1.heap.size + 1 = X := ⟨_, rfl⟩
  rw [hX1] at HA0 ⊢
  clear hX1
  go_upto_if 30 with fail
  go_cut [7, 8] from 30 to 32 (fun a b wx => ∃ S X : Nat, a = .pointer (some ⟨S, 0, none⟩) ∧ b = .pointer (some ⟨X, 0, none⟩) ∧ Hid (∃ xs ys, SB w wx S X xs ys ∧ (0 < n → ∃ x c v, Two w wx S x c X v xs ys)))
  case first =>
    have hcase : n = 0 ∨ 0 < n := by omega
    rcases hcase with h0 | h0
    · have q0 : ¬ (0 : Int) < n := by omega
      have HE : Hid (∃ xs ys, SB w w2 S X1 xs ys ∧ (0 < n → ∃ x c v, Two w w2 S x c X1 v xs ys)) := Lib.hid (by
        obtain ⟨xs, ys, h⟩ := HA0.out
        exact ⟨xs, ys, h, fun h => by omega⟩)
      clear HA0 h0
      go_wp2
      go_meet
      exact ⟨S, X1, rfl, rfl, HE⟩
    · have q0 : (0 : Int) < n := by omega
      clear HA0
      go_wp2_with fail
      refine (HNW.out _).mono ?_
      rintro e w3 ⟨rfl, hs3, hb3⟩
      go_wp2_with fail
      refine (HRN.out _).mono ?_
      rintro e w4 ⟨rfl, hb4, hc4, hf4⟩
      have hSl := lt_of_cell hs3.cell
      have hb24 : Below w.heap.size w w4 := HB2.out.trans ((hb3.trans (hb4.mono hb3.size)).mono HB2.out.size)
      have H0 : Hid (∃ xs ys, SB w w4 w2.heap.size w3.heap.size xs ys ∧ (0 < n → ∃ x c v, Two w w4 w2.heap.size x c w3.heap.size v xs ys)) := Lib.hid (by
        have htw : Two w w4 w2.heap.size none 0 w3.heap.size (.slice none 0 0) [] [] := ⟨hs3.below hb4, (fun a b hb _ => absurd hb (by simp)), by simp, ⟨hc4, hf4, World.ownsRow_nil _ _ _ _, (fun e => by cases e), (fun _ => rfl), Nat.le_trans HB2.out.size hb3.size⟩, List.Perm.refl _, by omega, (fun e => by cases e), (fun b off e => by cases e), HB2.out.size, hb24⟩
        obtain ⟨y, d, _, hy⟩ := htw.b.set
        exact ⟨[], [], ⟨none, 0, y, d, htw.a, ⟨GoodK.nil_, fun _ h => (by cases h)⟩, hy, List.Perm.refl _, hb24⟩, fun _ => ⟨_, _, _, htw⟩⟩)
      clear hs3 hb3 hb4 hc4 hf4 hSl hb24
      go_wp2
      go_meet
      exact ⟨_, _, rfl, rfl, H0⟩
  case rest =>
    obtain ⟨S2, X2, rfl, rfl, H0⟩ := hcut
    clear HA0 HNW HRN HB2
    go_upto_block 0 with fail
    go_cut [9, 10, 11] from 35 to 59 (fun _ _ _ wx => Hid (∃ xs ys, SB w wx S2 X2 xs ys))
    case first =>
      go_wp2_with fail
      go_loopw [9] (fun i wr => ∃ t : Nat, i = .int .i64 t ∧ t ≤ n ∧ Hid (∃ xs ys, SB w wr S2 X2 xs ys ∧ (0 < n → ∃ x c v, Two w wr S2 x c X2 v xs ys))) (fun i _ => n - (intOf i).toNat)
      case atStart => exact ⟨0, rfl, by omega, H0⟩
      case round =>
        clear H0
        obtain ⟨t, rfl, ht, HTW⟩ := hrel
        obtain ⟨xs, ys, hsb, htw⟩ := HTW.out
        have HEX : Hid (∃ xs ys, SB w wr S2 X2 xs ys) := Lib.hid ⟨xs, ys, hsb⟩
        have HGK : Hid (GoodK xs ∧ FitK xs) := Lib.hid (by obtain ⟨_, _, _, _, _, h, _⟩ := hsb; exact h)
        clear HTW hsb
        by_cases hlt : t < n
        · have q1 : (0 : Int) ≤ t := by omega
          have q2 : (t : Int) < n := by omega
          by_cases h70 : t < 70
          · obtain ⟨x2, c2, v, hTw⟩ := htw (by omega)
            have HTW2 := Lib.hid hTw
            clear htw hTw HEX
            have q3 : (t : Int) < 70 := by omega
            have htx : t < ls.length := by rw [HN.out.1]; exact hlt
            obtain ⟨bx, off, hxe, hxl, a0, a1, a2, a3, a4, a5⟩ := HL.out t htx
            have hzz := HZ.out _ (List.getElem_mem htx)
            have HLC : Hid (∀ W, Below w.heap.size w W → W.cell? ⟨bx, off + t * 6, none⟩ = some (.string ls[t].name) ∧ W.cell? ⟨bx, off + t * 6 + 1, none⟩ = some (.int .i64 ls[t].kind) ∧ W.cell? ⟨bx, off + t * 6 + 2, none⟩ = some (.string ls[t].dflt) ∧ W.cell? ⟨bx, off + t * 6 + 3, none⟩ = some (.int .i64 ls[t].least) ∧ W.cell? ⟨bx, off + t * 6 + 4, none⟩ = some (.int .i64 ls[t].most) ∧ W.cell? ⟨bx, off + t * 6 + 5, none⟩ = some (.string ls[t].letter)) := Lib.hid fun W hb =>
              ⟨(hb.cell (p := ⟨bx, _, none⟩) hxl).trans a0, (hb.cell (p := ⟨bx, _, none⟩) hxl).trans a1, (hb.cell (p := ⟨bx, _, none⟩) hxl).trans a2, (hb.cell (p := ⟨bx, _, none⟩) hxl).trans a3, (hb.cell (p := ⟨bx, _, none⟩) hxl).trans a4, (hb.cell (p := ⟨bx, _, none⟩) hxl).trans a5⟩
            generalize ls[t] = k at HLC hzz a0 a1 a2 a3 a4 a5
            have HSK : Hid (Small k) := Lib.hid (by unfold Small; omega)
            obtain ⟨z1, z2, z3⟩ := hzz
            have hS := HSB.out _ HTW2.out.below
            have HAD := Lib.hid (add_any xs k S2 x2 c2 wr HTW2.out.a HTW2.out.sorted HTW2.out.len hS.tab hS.units hS.maxI (by omega) (by omega) (by omega))
            have HRA : Hid (∀ W, RefAt w.heap.size W X2 v ys → w.heap.size ≤ W.heap.size → Calls Tryz.prog 33 #[.pointer (some ⟨X2, 0, none⟩), kAgg k] W fun e w' => e = .returned (.int .i64 (addE xs k)) ∧ ∃ v', RefAt w.heap.size w' X2 v' (addR ys k) ∧ RFr X2 v W w' ∧ (v'.ownBlock = v.ownBlock ∨ ∃ g, v'.ownBlock = some g ∧ W.heap.size ≤ g)) := Lib.hid fun W hr hB => by
              have := refAdd_any w.heap.size ys k X2 v W hr (by have := HTW2.out.perm.length_eq; have := HTW2.out.len; omega) hB (by omega) (by omega) (by omega)
              rw [addE_perm HTW2.out.perm] at this
              exact this
            have HPM : Hid ((addR ys k).Perm (addK xs k) ∧ Sorted (addK xs k) ∧ (addK xs k).length ≤ 64) := Lib.hid ⟨addR_perm HTW2.out.perm k, addK_sorted k HTW2.out.sorted, addK_len xs k HTW2.out.len⟩
            have HVB : Hid (∀ g, v.ownBlock = some g → w.heap.size ≤ g) := Lib.hid fun g hg => (HTW2.out.b.own.lt g hg).1
            have HGN := Lib.hid (And.intro (HGK.out.1.add HSK.out) (HGK.out.2.add z2))
            obtain ⟨E, hE⟩ : ∃ E, addE xs k = E := ⟨_, rfl⟩
            rw [hE] at HAD HRA
            obtain ⟨d0, d1, d2, d3, d4, d5⟩ := HLC.out wr HTW2.out.below
            obtain ⟨nm, kd, dl, la, lb, le⟩ := k
            unfold kAgg at HAD HRA
            simp only at HAD HRA HLC d0 d1 d2 d3 d4 d5
            subst hxe
            clear a0 a1 a2 a3 a4 a5 hS z1 z2 z3 hE htx HSK
            go_wp2_with fail
            refine HAD.out.mono ?_
            rintro e w3 ⟨rfl, hadd⟩
            obtain ⟨x3, c3, hs3, hr3, hrow3, hb3, hz3⟩ := HTW2.out.first hadd
            have HS3 := Lib.hid hs3
            have HR3 := Lib.hid hr3
            have HROW3 := Lib.hid hrow3
            have HB3 := Lib.hid hb3
            clear d0 d1 d2 d3 d4 d5 hadd hs3 hr3 hrow3 hb3 hz3 HAD
            obtain ⟨d0, d1, d2, d3, d4, d5⟩ := HLC.out w3 HB3.out
            go_wp2_with fail
            refine (HRA.out _ HR3.out HB3.out.size).mono ?_
            rintro e w4 ⟨rfl, v4, hr4, hf4, ho4⟩
            have HNX : Hid (∃ xs ys, SB w w4 S2 X2 xs ys ∧ (0 < n → ∃ x c v, Two w w4 S2 x c X2 v xs ys)) := Lib.hid (by
              have htw := HTW2.out.second HS3.out HROW3.out HB3.out hr4 hf4 ho4 HPM.out.2.1 HPM.out.2.2 HPM.out.1 HVB.out
              obtain ⟨y, d, _, hy⟩ := htw.b.set
              exact ⟨_, _, ⟨_, _, y, d, htw.a, HGN.out, hy, htw.perm, htw.below⟩, fun _ => ⟨_, _, _, htw⟩⟩)
            clear d0 d1 d2 d3 d4 d5 hr4 hf4 ho4 HS3 HR3 HROW3 HB3 HRA HPM HVB HTW2
            go_wp2
            go_roundw
            case rel => exact ⟨t + 1, by go_num, by omega, HNX⟩
            case measure => simp [intOf]; omega
          · have q3 : ¬ (t : Int) < 70 := by omega
            clear htw
            go_wp2
            go_meet
            exact HEX
        · have q2 : ¬ (t : Int) < n := by omega
          clear htw
          go_wp2
          go_meet
          exact HEX
    case rest =>
      obtain ⟨xs, ys, hsb⟩ := hcut.out
      clear H0 hcut
      obtain ⟨sx, sc, y, d, hsa, ⟨hG, hfit⟩, hra, hperm, hbel⟩ := hsb
      have HG := Lib.hid hG
      have HB4 := Lib.hid hbel
      obtain ⟨w4, hw4⟩ : ∃ w4, w4 = wc := ⟨_, rfl⟩
      subst hw4
      have hS4 := HSB.out _ HB4.out
      have HMG := Lib.hid (lmerge_any xs S2 sx sc w4 hsa hG hS4.tab hS4.units hS4.maxI)
      have HSM : Hid (∀ W, Below w4.heap.size w4 W → Calls Tryz.prog 34 #[.pointer (some ⟨X2, 0, none⟩), .slice none 0 0, .slice none 0 0] W (MergeRes W xs)) := Lib.hid fun W hb => smerge0_any xs ys hperm hG.sorted X2 y d W (hra.below hb) (by have := hperm.length_eq; have := hG.len; omega) hfit
      clear hsa hG hfit hra hperm hbel hS4
      go_wp2_with fail
      refine HMG.out.mono ?_
      rintro e w5 ⟨dx, dc, hx, hc, ms, rfl, hlay, hok, hms, hb5⟩
      have HLY := Lib.hid (And.intro hlay (And.intro hok hms))
      have HB5 := Lib.hid (HB4.out.trans (hb5.mono HB4.out.size))
      have hSM := HSM.out w5 hb5
      have HX4 := Lib.hid HB4.out.size
      clear hlay hok hms hb5 HSM HMG
      generalize w4.heap.size = X at *
      go_wp2_with fail
      refine hSM.mono ?_
      rintro e w6 ⟨Y, yk, ck2, lv, ns, rfl, hmg, hns⟩
      have HB6 := Lib.hid (HB5.out.trans (hmg.below.mono HB5.out.size))
      have HBO : Hid (Both w5.heap.size w w6 (fun b => X ≤ b ∧ b < w5.heap.size ∧ b ≠ X) X Y dx dc hx hc xs ms yk ck2 lv ns) := Lib.hid
        ⟨HLY.out.1.below hmg.below, HLY.out.2.1, hmg.obj, hmg.keys, hmg.sets, by rw [hns, HLY.out.2.2], fun g hg hf => (by have := (hmg.sets.row.lt g hg).1; omega), HX4.out, fun g hg => Nat.le_trans HB5.out.size (hmg.sets.row.lt g hg).1, HB6.out⟩
      have HAL : Hid (Calls Tryz.prog 15 #[.pointer (some ⟨Y, 0, none⟩)] w6 fun e w' => ∃ v ms', e = .returned v ∧ ms'.map (·.x) = ns.map (·.x) ∧ SetsAt w6.heap.size w' v ms' ∧ Below w6.heap.size w6 w') := Lib.hid (by
        have hl := len_of_same HBO.out.same
        have h2 := HBO.out.ok.len
        have h3 := HG.out.len
        refine (sall2_any w5.heap.size Y w6 _ lv ns hmg.obj hmg.sets (by omega) fun m hm => ?_).mono fun e w' ⟨v, ms', a, b, c, d, _⟩ => ⟨v, ms', a, b, c, d⟩
        have : m.x ∈ ms.map (·.x) := by rw [← HBO.out.same]; exact List.mem_map_of_mem hm
        obtain ⟨m2, h4, e⟩ := List.mem_map.1 this
        rw [← e]
        have := (right_bounds (HBO.out.ok.right m2 h4)).1
        omega)
      have HB5L := Lib.hid HB5.out.size
      clear hmg hns hSM HLY HB4 HX4
      generalize w5.heap.size = B5 at *
      go_wp2_with fail
      refine HAL.out.mono ?_
      rintro e w7 ⟨v7, l7, rfl, hl7, hs7, hb7⟩
      obtain ⟨m, hm⟩ : ∃ m, ms.length = m := ⟨_, rfl⟩
      have hl7m : l7.length = m := by rw [len_of_same hl7, len_of_same HBO.out.same, hm]
      have hmx : xs.length = m := by rw [← HBO.out.ok.len, hm]
      obtain ⟨x7, c7, hv7⟩ := hs7.form
      rw [hl7m] at hv7
      subst hv7
      have HM := Lib.hid (And.intro hl7m hmx)
      have hm64 : m ≤ 64 := by rw [← hmx]; exact HG.out.len
      have HAP : Hid (∀ g, lv.ownBlock = some g → (Value.slice x7 m c7).ownBlock ≠ some g) := Lib.hid fun g hg e => by
        have h1 := (hs7.row.lt g e).1
        have h2 := row_lt HBO.out.sets.row g hg
        omega
      have hrow := hs7.row
      rw [hl7m] at hrow
      have H0 : Hid (∃ F hx hc ms ns, Both B5 w w7 F X Y dx dc hx hc xs ms yk ck2 lv ns ∧ w7.ownsRow w6.heap.size 50 6 (.slice x7 m c7) m (sFlat l7)) := Lib.hid ⟨_, hx, hc, ms, ns, HBO.out.after hb7, hrow⟩
      clear hl7 hs7 hb7 hm hl7m hmx hrow HAL HBO HB6 HB5
      generalize w6.heap.size = B6 at *
      go_wp2
      go_loopw [21] (fun i wr => ∃ t : Nat, i = .int .i64 t ∧ t ≤ np ∧ Hid (∃ F hx hc ms ns, Both B5 w wr F X Y dx dc hx hc xs ms yk ck2 lv ns ∧ wr.ownsRow B6 50 6 (.slice x7 m c7) m (sFlat l7))) (fun i _ => np - (intOf i).toNat)
      case atStart => exact ⟨0, rfl, by omega, H0⟩
      case round =>
        clear H0
        obtain ⟨t, rfl, ht, HI⟩ := hrel
        obtain ⟨F, hx, hc, ms, ns, hbo, hrow⟩ := HI.out
        have HBO := Lib.hid hbo
        have HROW := Lib.hid hrow
        clear HI hbo hrow
        by_cases hlt : t < np ∧ 0 < m
        · obtain ⟨hlt, hm0⟩ := hlt
          have q1 : (0 : Int) ≤ t := by omega
          have q2 : (t : Int) < np := by omega
          have q3 : (0 : Int) < m := by omega
          have htx : t < ps.length := by rw [HN.out.2]; exact hlt
          obtain ⟨bp, op_, hpe, hpl, p0, p1, p2⟩ := HPS.out t htx
          obtain ⟨z1, z2, z3⟩ := HPZ.out _ (List.getElem_mem htx)
          generalize ps[t] = pv at *
          obtain ⟨pa, pf, pt⟩ := pv
          simp only at p0 p1 p2 z1 z2 z3
          have HPC : Hid (∀ W, Below w.heap.size w W → W.cell? ⟨bp, op_ + t * 3, none⟩ = some (.int .i64 pa) ∧ W.cell? ⟨bp, op_ + t * 3 + 1, none⟩ = some (.int .i64 pf) ∧ W.cell? ⟨bp, op_ + t * 3 + 2, none⟩ = some (.string pt)) := Lib.hid fun W hb => ⟨(hb.cell (p := ⟨bp, _, none⟩) hpl).trans p0, (hb.cell (p := ⟨bp, _, none⟩) hpl).trans p1, (hb.cell (p := ⟨bp, _, none⟩) hpl).trans p2⟩
          obtain ⟨c0, c1, c2⟩ := HPC.out wr HBO.out.below
          have HK1 : Hid (∀ W, Calls Tryz.prog 21 #[.int .i64 pa, .int .i64 m] W fun e w' => e = .returned (.int .i64 (pickJ pa m)) ∧ W = w') := Lib.hid fun W => rpick_any pa m W (by omega) (by omega) z2.1 z2.2
          have HK2 : Hid (∀ W, Calls Tryz.prog 21 #[.int .i64 pf, .int .i64 6] W fun e w' => e = .returned (.int .i64 (pickJ pf 6)) ∧ W = w') := Lib.hid fun W => rpick_any pf 6 W (by omega) (by omega) z3.1 z3.2
          obtain ⟨k, hk⟩ : ∃ k : Nat, pickJ pa m = k := ⟨(pickJ pa m).toNat, by have := pickJ_in (c := pa) (n := m) (by omega); omega⟩
          have hkm : k < m := by have := pickJ_in (c := pa) (n := m) (by omega); omega
          rw [hk] at HK1
          generalize pickJ pf 6 = fr at HK2
          have hkl : k < l7.length := by rw [HM.out.1]; exact hkm
          obtain ⟨ga, hxa⟩ : ∃ g, x7 = some ⟨g, 0, none⟩ := by
            rcases HROW.out.2 with ⟨h1, h2⟩ | ⟨g, cap, cur, h1, _⟩
            · omega
            · injection h1 with h1 _ _; exact ⟨g, h1⟩
          subst hxa
          have hcs : ∀ j, j < 6 → wr.cell? ⟨ga, k * 6 + j, none⟩ = (sCells l7[k])[j]? := fun j hj => by
            rw [HROW.out.cellAt (k * 6 + j) (by omega), sFlat_at l7 k hkl j hj]
          generalize l7[k] = m1 at hcs
          obtain ⟨⟨nm, ⟨vk, vi, vt, vw⟩, vf⟩, va, vc⟩ := m1
          have e0 := hcs 0 (by decide)
          have e1 := hcs 1 (by decide)
          have e2 := hcs 2 (by decide)
          have e3 := hcs 3 (by decide)
          have e4 := hcs 4 (by decide)
          have e5 := hcs 5 (by decide)
          rw [Nat.add_zero] at e0
          simp only [sCells, List.getElem?_cons_zero, List.getElem?_cons_succ] at e0 e1 e2 e3 e4 e5
          obtain ⟨nw, hnw⟩ : ∃ nw, vw.length = nw := ⟨_, rfl⟩
          rw [hnw] at e4
          have q4 : (0 : Int) ≤ k := by omega
          have q5 : (k : Int) < m := by omega
          subst hpe
          clear p0 p1 p2 z2 z3 hcs hnw hkl hk htx
          go_wp2_with fail
          refine (HK1.out _).mono ?_
          rintro e w' ⟨rfl, rfl⟩
          clear HK1
          have c2o : ∀ o, (wr.alloc o).cell? ⟨bp, op_ + t * 3 + 2, none⟩ = some (.string pt) := fun o => (HPC.out _ (HBO.out.after (below_one wr o)).below).2.2
          have HW2 : Hid (∀ W, (wr.alloc (Obj.cells #[.string nm, .int .i64 vk, .int .i64 vi, .string vt, .slice va nw vc, .int .i64 vf] 50)).alloc (Obj.cells #[.int .i64 5, .int .i64 0, .string pt, .slice none 0 0] 48) = W → Below wr.heap.size wr W ∧ W.cell? ⟨wr.heap.size, 0, none⟩ = some (.string nm) ∧ Box4 W (wr.heap.size + 1) (.int .i64 5) (.int .i64 0) (.string pt) (.slice none 0 0) ∧ wr.heap.size + 1 < W.heap.size) := Lib.hid fun W hW => by
            subst hW
            have hb1 := below_one wr (Obj.cells #[.string nm, .int .i64 vk, .int .i64 vi, .string vt, .slice va nw vc, .int .i64 vf] 50)
            have hsz : (wr.alloc (Obj.cells #[.string nm, .int .i64 vk, .int .i64 vi, .string vt, .slice va nw vc, .int .i64 vf] 50)).heap.size = wr.heap.size + 1 := by simp
            have hb2 := below_one (wr.alloc (Obj.cells #[.string nm, .int .i64 vk, .int .i64 vi, .string vt, .slice va nw vc, .int .i64 vf] 50)) (Obj.cells #[.int .i64 5, .int .i64 0, .string pt, .slice none 0 0] 48)
            refine ⟨hb1.trans (hb2.mono hb1.size), ?_, ?_, by simp⟩
            · rw [hb2.cell (p := ⟨wr.heap.size, 0, none⟩) (by rw [hsz]; exact Nat.lt_succ_self _)]
              exact World.cell?_alloc_at _ _ _ _ rfl
            · have := box4_new (wr.alloc (Obj.cells #[.string nm, .int .i64 vk, .int .i64 vi, .string vt, .slice va nw vc, .int .i64 vf] 50)) (.int .i64 5) (.int .i64 0) (.string pt) (.slice none 0 0) 48
              rw [hsz] at this
              exact this
          go_wp2
          obtain ⟨wA, hwA⟩ : ∃ W, (wr.alloc (Obj.cells #[.string nm, .int .i64 vk, .int .i64 vi, .string vt, .slice va nw vc, .int .i64 vf] 50)).alloc (Obj.cells #[.int .i64 5, .int .i64 0, .string pt, .slice none 0 0] 48) = W := ⟨_, rfl⟩
          obtain ⟨hbA, hA0, hAB, hAl⟩ := HW2.out wA hwA
          rw [hwA]
          have HBA := Lib.hid (HBO.out.after hbA)
          have HRA := Lib.hid (rowBelow HROW.out hbA)
          have hXA : X < wr.heap.size := heap_ltF HBO.out.a.obj
          have hbX : bp < X := Nat.lt_of_lt_of_le hpl HBO.out.newX
          have HBW := Lib.hid hbA
          have HLA : Hid (∀ g, lv.ownBlock = some g → g < wr.heap.size) := Lib.hid fun g hg => row_lt HBO.out.sets.row g hg
          obtain ⟨A, hA⟩ : ∃ A, wr.heap.size = A := ⟨_, rfl⟩
          rw [hA] at HLA
          rw [hA] at hA0 hAB hXA hAl ⊢
          obtain ⟨b0, b1, b2, b3, _, _, _, _⟩ := hAB
          have p1 := (HPC.out wA HBA.out.below).2.1
          have d0 : wA.drew.cell? ⟨A, 0, none⟩ = some (.string nm) := hA0
          have d1 : wA.drew.cell? ⟨A + 1, 0, none⟩ = some (.int .i64 5) := b0
          have d2 : wA.drew.cell? ⟨A + 1, 1, none⟩ = some (.int .i64 0) := b1
          have d3 : wA.drew.cell? ⟨A + 1, 2, none⟩ = some (.string pt) := b2
          have d4 : wA.drew.cell? ⟨A + 1, 3, none⟩ = some (.slice none 0 0) := b3
          have d5 : wA.drew.cell? ⟨bp, op_ + t * 3 + 1, none⟩ = some (.int .i64 pf) := p1
          have HARG : Hid (∀ W, ArgOk W ⟨5, 0, pt, []⟩ none 0) := Lib.hid fun W => ⟨fun k hk => absurd hk (by simp), by simp, by simp, fun k hk => absurd hk (by simp), by show pt.size ≤ maxLen; unfold maxLen; omega⟩
          have HBD : Hid (Both B5 w wA.drew F X Y dx dc hx hc xs ms yk ck2 lv ns) := Lib.hid (HBA.out.after (below_drewN wA 1))
          have HPUT : Hid (Calls Tryz.prog 22 #[.pointer (some ⟨X, 0, none⟩), .string nm, .agg #[.int .i64 5, .int .i64 0, .string pt, .slice none 0 0], .int .i64 fr] wA.drew (LpRes F wA.drew X dx dc xs ms nm ⟨5, 0, pt, []⟩ fr)) := Lib.hid (by
            have hmo := made_ms HG.out HBD.out.ok
            exact lput_any F X wA.drew dx hx dc hc xs ms HBD.out.a HBD.out.ok HG.out.sorted hmo.dis hmo.few nm ⟨5, 0, pt, []⟩ none 0 (HARG.out _) (by simp) (fun k hk => absurd hk (by simp)) (by show pt.size ≤ 4294967280; omega) fr (HSB.out _ HBD.out.below).tab)
          have HCB : Hid (∀ {W : World} {g o : Nat} {v : Value}, But X wA.drew W → g ≠ X → wA.cell? ⟨g, o, none⟩ = some v → W.cell? ⟨g, o, none⟩ = some v) := Lib.hid fun hb hg h => (hb.cell (p := ⟨_, _, none⟩) (lt_of_cell h) hg).trans h
          have n1 : A ≠ X := by omega
          have n2 : A + 1 ≠ X := by omega
          have n3 : bp ≠ X := by omega
          clear hwA hbA HW2 c0 c1 c2 c2o e0 e1 e2 e3 e4 e5 HBO HROW hA
          go_region_held3 (fun W => W.cell? ⟨A, 0, none⟩ = some (.string nm) ∧ W.cell? ⟨A + 1, 0, none⟩ = some (.int .i64 5) ∧ W.cell? ⟨A + 1, 1, none⟩ = some (.int .i64 0) ∧ W.cell? ⟨A + 1, 2, none⟩ = some (.string pt) ∧ W.cell? ⟨A + 1, 3, none⟩ = some (.slice none 0 0) ∧ W.cell? ⟨bp, op_ + t * 3 + 1, none⟩ = some (.int .i64 pf))
            (first | exact ⟨d0, d1, d2, d3, d4, d5⟩ | exact ⟨g0, g1, g2, g3, g4, g5⟩)
            (first
              | (go_at_call 21; (with_reducible refine (HK2.out _).mono ?_); rintro e w' ⟨rfl, rfl⟩)
              | (go_at_call 22; (with_reducible refine HPUT.out.mono ?_); rintro e w8 hp8; obtain ⟨E, F8, hx8, hc8, ms8, rfl, hbut8, hlay8, hF8, hput8⟩ := lput_is HBD.out.a hp8; clear hp8; have HP8 := Lib.hid (And.intro hbut8 (And.intro hlay8 (And.intro hF8 hput8))); have g0 := HCB.out hbut8 n1 hA0; have g1 := HCB.out hbut8 n2 b0; have g2 := HCB.out hbut8 n2 b1; have g3 := HCB.out hbut8 n2 b2; have g4 := HCB.out hbut8 n2 b3; have g5 := HCB.out hbut8 n3 p1; clear hbut8 hlay8 hF8 hput8; dsimp only))
          have hfst := HBD.out.first HP8.out.2.1 (HP8.out.2.2.2.ok HBD.out.ok) HP8.out.2.2.1 HP8.out.1
          have HF8 := Lib.hid hfst
          have HR8 : Hid (w8.ownsRow B6 50 6 (.slice (some ⟨ga, 0, none⟩) m c7) m (sFlat l7)) := Lib.hid ((rowBelow HRA.out (below_drewN wA 1)).kept (but_grown HP8.out.1) (.inr (own_ne (rowBelow HRA.out (below_drewN wA 1)) HBD.out.a.obj (by decide))))
          have HPT := Lib.hid HP8.out.2.2.2
          have HSA := Lib.hid HBD.out.same
          have HNX : Hid (w.heap.size ≤ X ∧ ∀ g, lv.ownBlock = some g → w.heap.size ≤ g) := Lib.hid ⟨HBD.out.newX, HBD.out.newL⟩
          have HPU2 : Hid (∀ W, Below w8.heap.size w8 W → Calls Tryz.prog 35 #[.pointer (some ⟨Y, 0, none⟩), .string nm, .agg #[.int .i64 5, .int .i64 0, .string pt, .slice none 0 0], .int .i64 fr] W (PutRes B5 W lv xs ns nm ⟨5, 0, pt, []⟩ fr)) := Lib.hid fun W hb => by
            obtain ⟨f1, f2, f3, f4, f5, f6, f7⟩ := HF8.out
            have h1 := len_of_same HBD.out.same
            have h2 := HBD.out.ok.len
            have h3 := HG.out.len
            exact sput_any B5 Y W lv xs ns yk ck2 (f4.below hb) (f3.below hb) (f5.below hb) (by omega) (by omega) nm ⟨5, 0, pt, []⟩ none 0 (HARG.out _) (by simp) fr
          have k0 : w8.drew.cell? ⟨A, 0, none⟩ = some (.string nm) := g0
          have k1 : w8.drew.cell? ⟨A + 1, 0, none⟩ = some (.int .i64 5) := g1
          have k2 : w8.drew.cell? ⟨A + 1, 1, none⟩ = some (.int .i64 0) := g2
          have k3 : w8.drew.cell? ⟨A + 1, 2, none⟩ = some (.string pt) := g3
          have k4 : w8.drew.cell? ⟨A + 1, 3, none⟩ = some (.slice none 0 0) := g4
          have k5 : w8.drew.cell? ⟨bp, op_ + t * 3 + 1, none⟩ = some (.int .i64 pf) := g5
          have HPC9 : Hid (∀ w9, w8.drew.grownBy w9 lv.ownBlock → (w9.cell? ⟨A, 0, none⟩ = some (.string nm) ∧ w9.cell? ⟨A + 1, 0, none⟩ = some (.int .i64 5) ∧ w9.cell? ⟨A + 1, 1, none⟩ = some (.int .i64 0) ∧ w9.cell? ⟨A + 1, 2, none⟩ = some (.string pt) ∧ w9.cell? ⟨A + 1, 3, none⟩ = some (.slice none 0 0) ∧ w9.cell? ⟨bp, op_ + t * 3 + 1, none⟩ = some (.int .i64 pf))) := Lib.hid fun w9 hg => by
            have hz : wA.heap.size ≤ w8.drew.heap.size := HP8.out.1.2.2.2.1
            have far : ∀ (b o : Nat) (v : Value), b < w8.drew.heap.size → (∀ g, lv.ownBlock = some g → b ≠ g) → w8.cell? ⟨b, o, none⟩ = some v → w9.cell? ⟨b, o, none⟩ = some v := fun b o v hb hne h =>
              (cell_blkT (hg.block b hb (fun e => by
                cases hl : lv.ownBlock with
                | none => rw [hl] at e; cases e
                | some g => rw [hl] at e; exact hne g hl (Option.some.inj e))) o).trans h
            have hA1 : ∀ g, lv.ownBlock = some g → A ≠ g := fun g hg => by have := HLA.out g hg; omega
            have hA2 : ∀ g, lv.ownBlock = some g → A + 1 ≠ g := fun g hg => by have := HLA.out g hg; omega
            have hA3 : ∀ g, lv.ownBlock = some g → bp ≠ g := fun g hg => by have := HNX.out.2 g hg; omega
            have hl1 : A < w8.drew.heap.size := by omega
            have hl2 : A + 1 < w8.drew.heap.size := by omega
            have hl3 : bp < w8.drew.heap.size := by omega
            exact ⟨far A 0 _ hl1 hA1 g0, far (A + 1) 0 _ hl2 hA2 g1, far (A + 1) 1 _ hl2 hA2 g2, far (A + 1) 2 _ hl2 hA2 g3, far (A + 1) 3 _ hl2 hA2 g4, far bp _ _ hl3 hA3 g5⟩
          have HD8 : Hid (Below w8.heap.size w8 w8.drew) := Lib.hid (below_drewN w8 1)
          clear hfst HP8 HRA HBD HPUT HBA b0 b1 b2 b3 d0 d1 d2 d3 d4 d5 hA0 p1 HCB
          go_wp2_with fail
          go_region_held3 (fun W => W.cell? ⟨A, 0, none⟩ = some (.string nm) ∧ W.cell? ⟨A + 1, 0, none⟩ = some (.int .i64 5) ∧ W.cell? ⟨A + 1, 1, none⟩ = some (.int .i64 0) ∧ W.cell? ⟨A + 1, 2, none⟩ = some (.string pt) ∧ W.cell? ⟨A + 1, 3, none⟩ = some (.slice none 0 0) ∧ W.cell? ⟨bp, op_ + t * 3 + 1, none⟩ = some (.int .i64 pf))
            (first | exact ⟨k0, k1, k2, k3, k4, k5⟩ | exact HK9.out)
            (first
              | (go_at_call 21; (with_reducible refine (HK2.out _).mono ?_); rintro e w' ⟨rfl, rfl⟩)
              | (go_at_call 35; (with_reducible refine (HPU2.out w8.drew HD8.out).mono ?_); rintro e w9 hp9; obtain ⟨E2, ns9, rfl, hg9, hs9, hput9⟩ := sput_is (HF8.out.2.2.2.2.1.below (below_drewN w8 1)) hp9; clear hp9; obtain ⟨rfl, hsm9⟩ := HPT.out.same hput9 HSA.out; have H9 := Lib.hid (And.intro hg9 (And.intro hs9 hsm9)); have HK9 := Lib.hid (HPC9.out w9 hg9); clear hg9 hs9 hput9 hsm9; dsimp only))
          have HNB : Hid (∃ F hx hc ms ns, Both B5 w w9 F X Y dx dc hx hc xs ms yk ck2 lv ns ∧ w9.ownsRow B6 50 6 (.slice (some ⟨ga, 0, none⟩) m c7) m (sFlat l7)) := Lib.hid (by
            obtain ⟨f1, f2, f3, f4, f5, f6, f7⟩ := HF8.out
            have hd := below_drewN w8 1
            refine ⟨F8, hx8, hc8, ms8, ns9, Both.second (f1 _ hd) f2 (f3.below hd) (f4.below hd) (f5.below hd) f6 HNX.out.1 HNX.out.2 (f7.trans (hd.mono f7.size)) H9.out.2.1 H9.out.1 H9.out.2.2, ?_⟩
            refine (rowBelow HR8.out hd).kept H9.out.1 ?_
            cases hl : lv.ownBlock with
            | none => exact .inr (by simp [Value.ownBlock])
            | some g => exact .inr (HAP.out g hl))
          have dE : (E != E) = false := by simp
          clear HK9 H9 HPC9 HPU2 HF8 HR8 HPT HSA HNX g0 g1 g2 g3 g4 g5 k0 k1 k2 k3 k4 k5
          go_wp2
          go_roundw
          case rel => exact ⟨t + 1, by go_num, by omega, HNB⟩
          case measure => simp [intOf]; omega
        · have hor : (¬ (t : Int) < np) ∨ ((t : Int) < np ∧ m = 0) := by omega
          have HE : Hid (BothRes w (.returned (.tuple #[.pointer (some ⟨X, 0, none⟩), .pointer (some ⟨Y, 0, none⟩), .bool true])) wr) := Lib.hid ⟨B5, F, X, Y, dx, dc, hx, hc, xs, ms, yk, ck2, lv, ns, rfl, HG.out, HB5L.out, HBO.out⟩
          rcases hor with q3 | ⟨q3, rfl⟩
          all_goals
            go_wp2
            go_ret3
            exact HE.out
end Go.Proofs.YtopghlnoklajkaaGreatDoor
