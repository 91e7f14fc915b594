/-
  KeyStd, KeySet, KeyFinds.
-/
import Derived.Test.YtopghlnoklajkaaGreatDoorQKeyAdds
import Derived.Lib.SliceRun
namespace Go.Proofs.YtopghlnoklajkaaGreatDoor
open Go.ChangeShapes Go.WideShapes Go.ChangeAt Go.RowKit

def netL : List KeyV := [⟨⟨#[110, 101, 116, 46, 104, 111, 115, 116]⟩, 5, ⟨#[108, 111, 99, 97, 108, 104, 111, 115, 116]⟩, 0, 0, ⟨#[]⟩⟩,
 ⟨⟨#[110, 101, 116, 46, 112, 101, 101, 114, 115]⟩, 6, ⟨#[]⟩, 0, 16, ⟨#[]⟩⟩,
 ⟨⟨#[110, 101, 116, 46, 112, 111, 114, 116]⟩, 2, ⟨#[56, 48, 56, 48]⟩, 1, 65535, ⟨#[112]⟩⟩,
 ⟨⟨#[110, 101, 116, 46, 116, 105, 109, 101, 111, 117, 116]⟩, 4, ⟨#[51, 48, 115]⟩, 1, 3600, ⟨#[]⟩⟩,
 ⟨⟨#[110, 101, 116, 46, 117, 114, 108]⟩, 5, ⟨#[104, 116, 116, 112, 58, 47, 47, 36, 123, 110, 101, 116, 46, 104, 111, 115, 116, 125, 58, 36, 123, 110, 101, 116, 46, 112, 111, 114, 116, 125]⟩, 0, 0, ⟨#[]⟩⟩]
def logL : List KeyV := [⟨⟨#[108, 111, 103, 46, 102, 105, 108, 101]⟩, 5, ⟨#[36, 123, 115, 116, 111, 114, 101, 46, 100, 105, 114, 125, 47, 108, 111, 103]⟩, 0, 0, ⟨#[]⟩⟩,
 ⟨⟨#[108, 111, 103, 46, 107, 101, 101, 112]⟩, 4, ⟨#[55, 100]⟩, 1, 2592000, ⟨#[]⟩⟩,
 ⟨⟨#[108, 111, 103, 46, 108, 101, 118, 101, 108]⟩, 2, ⟨#[50]⟩, 0, 5, ⟨#[118]⟩⟩]
def sbL : List KeyV := [⟨⟨#[115, 116, 111, 114, 101, 46, 98, 108, 111, 99, 107, 115]⟩, 2, ⟨#[54, 52]⟩, 8, 4096, ⟨#[98]⟩⟩,
 ⟨⟨#[115, 116, 111, 114, 101, 46, 99, 97, 99, 104, 101]⟩, 3, ⟨#[52, 109]⟩, 0, 1073741824, ⟨#[99]⟩⟩,
 ⟨⟨#[115, 116, 111, 114, 101, 46, 100, 105, 114]⟩, 5, ⟨#[47, 118, 97, 114, 47, 116, 105, 110, 100, 101, 114]⟩, 0, 0, ⟨#[100]⟩⟩,
 ⟨⟨#[115, 116, 111, 114, 101, 46, 112, 97, 103, 101]⟩, 3, ⟨#[52, 107]⟩, 512, 65536, ⟨#[]⟩⟩,
 ⟨⟨#[98, 111, 111, 116, 46, 100, 114, 121]⟩, 1, ⟨#[102, 97, 108, 115, 101]⟩, 0, 0, ⟨#[110]⟩⟩,
 ⟨⟨#[98, 111, 111, 116, 46, 108, 105, 109, 105, 116]⟩, 2, ⟨#[48]⟩, 0, 1024, ⟨#[]⟩⟩,
 ⟨⟨#[98, 111, 111, 116, 46, 115, 101, 114, 118, 105, 99, 101, 115]⟩, 6, ⟨#[108, 111, 103, 44, 110, 101, 116]⟩, 0, 16, ⟨#[115]⟩⟩,
 ⟨⟨#[98, 111, 111, 116, 46, 119, 111, 114, 107, 101, 114, 115]⟩, 2, ⟨#[48]⟩, 0, 64, ⟨#[119]⟩⟩]
def stdL : List KeyV := [⟨⟨#[98, 111, 111, 116, 46, 100, 114, 121]⟩, 1, ⟨#[102, 97, 108, 115, 101]⟩, 0, 0, ⟨#[110]⟩⟩,
 ⟨⟨#[98, 111, 111, 116, 46, 108, 105, 109, 105, 116]⟩, 2, ⟨#[48]⟩, 0, 1024, ⟨#[]⟩⟩,
 ⟨⟨#[98, 111, 111, 116, 46, 115, 101, 114, 118, 105, 99, 101, 115]⟩, 6, ⟨#[108, 111, 103, 44, 110, 101, 116]⟩, 0, 16, ⟨#[115]⟩⟩,
 ⟨⟨#[98, 111, 111, 116, 46, 119, 111, 114, 107, 101, 114, 115]⟩, 2, ⟨#[48]⟩, 0, 64, ⟨#[119]⟩⟩,
 ⟨⟨#[108, 111, 103, 46, 102, 105, 108, 101]⟩, 5, ⟨#[36, 123, 115, 116, 111, 114, 101, 46, 100, 105, 114, 125, 47, 108, 111, 103]⟩, 0, 0, ⟨#[]⟩⟩,
 ⟨⟨#[108, 111, 103, 46, 107, 101, 101, 112]⟩, 4, ⟨#[55, 100]⟩, 1, 2592000, ⟨#[]⟩⟩,
 ⟨⟨#[108, 111, 103, 46, 108, 101, 118, 101, 108]⟩, 2, ⟨#[50]⟩, 0, 5, ⟨#[118]⟩⟩,
 ⟨⟨#[110, 101, 116, 46, 104, 111, 115, 116]⟩, 5, ⟨#[108, 111, 99, 97, 108, 104, 111, 115, 116]⟩, 0, 0, ⟨#[]⟩⟩,
 ⟨⟨#[110, 101, 116, 46, 112, 101, 101, 114, 115]⟩, 6, ⟨#[]⟩, 0, 16, ⟨#[]⟩⟩,
 ⟨⟨#[110, 101, 116, 46, 112, 111, 114, 116]⟩, 2, ⟨#[56, 48, 56, 48]⟩, 1, 65535, ⟨#[112]⟩⟩,
 ⟨⟨#[110, 101, 116, 46, 116, 105, 109, 101, 111, 117, 116]⟩, 4, ⟨#[51, 48, 115]⟩, 1, 3600, ⟨#[]⟩⟩,
 ⟨⟨#[110, 101, 116, 46, 117, 114, 108]⟩, 5, ⟨#[104, 116, 116, 112, 58, 47, 47, 36, 123, 110, 101, 116, 46, 104, 111, 115, 116, 125, 58, 36, 123, 110, 101, 116, 46, 112, 111, 114, 116, 125]⟩, 0, 0, ⟨#[]⟩⟩,
 ⟨⟨#[115, 116, 111, 114, 101, 46, 98, 108, 111, 99, 107, 115]⟩, 2, ⟨#[54, 52]⟩, 8, 4096, ⟨#[98]⟩⟩,
 ⟨⟨#[115, 116, 111, 114, 101, 46, 99, 97, 99, 104, 101]⟩, 3, ⟨#[52, 109]⟩, 0, 1073741824, ⟨#[99]⟩⟩,
 ⟨⟨#[115, 116, 111, 114, 101, 46, 100, 105, 114]⟩, 5, ⟨#[47, 118, 97, 114, 47, 116, 105, 110, 100, 101, 114]⟩, 0, 0, ⟨#[100]⟩⟩,
 ⟨⟨#[115, 116, 111, 114, 101, 46, 112, 97, 103, 101]⟩, 3, ⟨#[52, 107]⟩, 512, 65536, ⟨#[]⟩⟩]
theorem std_fold : (netL ++ logL ++ sbL).foldl addK [] = stdL := by kernel_rfl
def Laid (w : World) (xs : List KeyV) (e : Ending) (w' : World) : Prop := ∃ g, e = .returned (.slice (some ⟨g, 0, none⟩) xs.length xs.length) ∧ Keys w' (some ⟨g, 0, none⟩) xs ∧ w.heap.size ≤ g ∧ Below w.heap.size w w'
theorem keys_flat (w : World) (xs : List KeyV) (t : TypeId) : Keys (w.alloc (Obj.cells (flat xs).toArray t)) (some ⟨w.heap.size, 0, none⟩) xs :=
 Keys.of_block (t := t) (fr := (0, 0)) (heap_alloc_new w _) (fun j v hv => by rw [List.getElem?_toArray]; exact hv)
set_option maxHeartbeats 1600000 in
set_option maxRecDepth 100000 in
theorem netKeys_any (w : World) : Calls Tryz.prog 52 #[] w (Laid w netL) := by
 have HE : Hid (∀ t, Laid w netL (.returned (.slice (some ⟨w.heap.size, 0, none⟩) netL.length netL.length)) (w.alloc (Obj.cells (flat netL).toArray t))) := Lib.hid fun t => ⟨_, rfl, keys_flat w netL t, Nat.le_refl _, below_one w _⟩
 go_enter Tryz.func52, Tryz.ntmps52
 go_wp2
 go_ret
 exact HE.out _
set_option maxHeartbeats 1600000 in
set_option maxRecDepth 100000 in
theorem logKeys_any (w : World) : Calls Tryz.prog 53 #[] w (Laid w logL) := by
 have HE : Hid (∀ t, Laid w logL (.returned (.slice (some ⟨w.heap.size, 0, none⟩) logL.length logL.length)) (w.alloc (Obj.cells (flat logL).toArray t))) := Lib.hid fun t => ⟨_, rfl, keys_flat w logL t, Nat.le_refl _, below_one w _⟩
 go_enter Tryz.func53, Tryz.ntmps53
 go_wp2
 go_ret
 exact HE.out _
set_option maxHeartbeats 1600000 in
set_option maxRecDepth 100000 in
theorem storeAndBootKeys_any (w : World) : Calls Tryz.prog 54 #[] w (Laid w sbL) := by
 have HE : Hid (∀ t, Laid w sbL (.returned (.slice (some ⟨w.heap.size, 0, none⟩) sbL.length sbL.length)) (w.alloc (Obj.cells (flat sbL).toArray t))) := Lib.hid fun t => ⟨_, rfl, keys_flat w sbL t, Nat.le_refl _, below_one w _⟩
 go_enter Tryz.func54, Tryz.ntmps54
 go_wp2
 go_ret
 exact HE.out _
end Go.Proofs.YtopghlnoklajkaaGreatDoor

namespace Go.Proofs.YtopghlnoklajkaaGreatDoor
open Go.ChangeShapes Go.WideShapes Go.ChangeAt Go.RowKit

set_option maxRecDepth 100000 in
theorem new_any (w : World) : Calls Tryz.prog 30 #[] w fun e w' => e = .returned (.pointer (some ⟨w.heap.size, 0, none⟩)) ∧ SetAt w' w.heap.size none 0 [] ∧ Below w.heap.size w w' := by
 have HE : Hid (∀ t, SetAt (w.alloc (Obj.cells #[.slice none 0 0] t)) w.heap.size none 0 []) := Lib.hid fun t => ⟨by simp, Keys.nil_ _ _, Nat.le_refl _, fun _ => ⟨rfl, rfl⟩, by simp⟩
 go_enter Tryz.func30, Tryz.ntmps30
 go_wp2
 go_ret
 exact ⟨rfl, HE.out _, below_one w _⟩
def ListsAt (w : World) (L : Nat) (ls : List (List KeyV)) : Prop := L < w.heap.size ∧ ∀ t (h : t < ls.length), ∃ x c, w.cell? ⟨L, t, none⟩ = some (.slice x (ls[t]'h).length c) ∧ Keys w x (ls[t]'h)
theorem ListsAt.below {w w' : World} {L : Nat} {ls : List (List KeyV)} (h : ListsAt w L ls) (hb : Below w.heap.size w w') : ListsAt w' L ls :=
 ⟨Nat.lt_of_lt_of_le h.1 hb.size, fun t ht => by
  obtain ⟨x, c, h1, h2⟩ := h.2 t ht
  exact ⟨x, c, by rw [hb.cell (p := ⟨L, t, none⟩) h.1]; exact h1, h2.below hb⟩⟩
structure SetIn (w0 w : World) (S : Nat) (xs : List KeyV) : Prop where
 set : ∃ x c, SetAt w S x c xs
 below : Below w0.heap.size w0 w
 new : w0.heap.size ≤ S
 sorted : Sorted xs
 len : xs.length ≤ 64
theorem SetIn.below' {w0 w w' : World} {S : Nat} {xs : List KeyV} (h : SetIn w0 w S xs) (hb : Below w.heap.size w w') : SetIn w0 w' S xs := by
 obtain ⟨⟨x, c, h1⟩, h2, h3, h4, h5⟩ := h
 exact ⟨⟨x, c, h1.below hb⟩, h2.trans (hb.mono h2.size), h3, h4, h5⟩
theorem SetIn.added {w0 w w' : World} {S : Nat} {xs : List KeyV} {k : KeyV} (h : SetIn w0 w S xs) (ha : Added w S (addK xs k) w') : SetIn w0 w' S (addK xs k) :=
 ⟨ha.1.imp fun _ h => h.imp fun _ h => h.1, h.below.trans (ha.2.below h.new h.below.size), h.new, addK_sorted k h.sorted, addK_len xs k h.len⟩
def Small (k : KeyV) : Prop := k.name.size ≤ 4294967280 ∧ k.dflt.size ≤ 4294967280 ∧ k.letter.size ≤ 4294967280
theorem fold_step (ls : List KeyV) (acc : List KeyV) (t : Nat) (h : t < ls.length) : (ls.take (t + 1)).foldl addK acc = addK ((ls.take t).foldl addK acc) ls[t] := by
 rw [List.take_succ_eq_append_getElem h, List.foldl_append]; rfl
theorem fold_list (ls : List (List KeyV)) (t : Nat) (h : t < ls.length) : (ls.take (t + 1)).flatten.foldl addK [] = ls[t].foldl addK ((ls.take t).flatten.foldl addK []) := by
 rw [List.take_succ_eq_append_getElem h, List.flatten_append, List.foldl_append]; simp

set_option maxHeartbeats 3200000 in
set_option maxRecDepth 100000 in
theorem together_any (ls : List (List KeyV)) (L c : Nat) (w : World) (hL : ListsAt w L ls) (hn : ls.length ≤ 1000) (hk : ∀ l ∈ ls, l.length ≤ 1000 ∧ ∀ k ∈ l, Small k) (hT : Tab w) (hU : Units w) (hM : MaxI w) :
  Calls Tryz.prog 51 #[.slice (some ⟨L, 0, none⟩) ls.length c] w fun e w' => ∃ S, e = .returned (.pointer (some ⟨S, 0, none⟩)) ∧ SetIn w w' S (ls.flatten.foldl addK []) := by
 have HL := Lib.hid hL
 have HK := Lib.hid hk
 have HS := Lib.hid (And.intro hT (And.intro hU hM))
 obtain ⟨n, hn'⟩ : ∃ n, ls.length = n := ⟨_, rfl⟩
 have HN := Lib.hid hn'
 rw [hn'] at hn ⊢
 clear hL hk hT hU hM hn'
 go_enter Tryz.func51, Tryz.ntmps51
 go_wp2_with fail
 refine (new_any _).mono ?_
 rintro e w1 ⟨rfl, hs1, hb1⟩
 have H1 : Hid (SetIn w w1 w.heap.size ((ls.take 0).flatten.foldl addK [])) := Lib.hid ⟨⟨_, _, hs1⟩, hb1, Nat.le_refl _, fun a b hb => absurd hb (by simp), by simp⟩
 obtain ⟨S, hS⟩ : ∃ S, w.heap.size = S := ⟨_, rfl⟩
 rw [hS] at H1 ⊢
 clear hs1 hb1 hS
 go_wp2
 go_loopw [11, 5, 7] (fun i _ _ wr => ∃ t : Nat, i = .int .i64 t ∧ t ≤ n ∧ Hid (SetIn w wr S ((ls.take t).flatten.foldl addK []))) (fun i _ _ _ => n - (intOf i).toNat)
 case atStart => exact ⟨0, rfl, by omega, H1⟩
 case round =>
  clear H1
  obtain ⟨t, rfl, ht, HI⟩ := hrel
  by_cases hlt : t < n
  ·have htl : t < ls.length := by rw [HN.out]; exact hlt
   obtain ⟨x, c1, hc0, hkx⟩ := HL.out.2 t htl
   have hc1 := (HI.out.below.cell (p := ⟨L, t, none⟩) HL.out.1).trans hc0
   have HX := Lib.hid hkx
   have HF := Lib.hid (fold_list ls t htl)
   have HM := Lib.hid (HK.out _ (List.getElem_mem htl))
   clear hc0 hkx
   generalize ls[t] = l at hc1 HX HF HM
   have hl1 : l.length ≤ 1000 := HM.out.1
   obtain ⟨m, hm⟩ : ∃ m, l.length = m := ⟨_, rfl⟩
   have HLM := Lib.hid hm
   rw [hm] at hc1 hl1
   have q1 : (0 : Int) ≤ t := by omega
   have q2 : (t : Int) < n := by omega
   have HJ : Hid (SetIn w wr S ((l.take 0).foldl addK ((ls.take t).flatten.foldl addK []))) := HI
   generalize (ls.take t).flatten.foldl addK [] = acc at HF HJ HI
   obtain ⟨wo, rfl⟩ : ∃ wo : World, wo = wr := ⟨_, rfl⟩
   clear htl hm
   go_wp2
   go_loopw [17, 7] (fun j _ wq => ∃ q : Nat, j = .int .i64 q ∧ q ≤ m ∧ Hid (SetIn w wq S ((l.take q).foldl addK acc))) (fun j _ _ => m - (intOf j).toNat)
   case atStart => exact ⟨0, rfl, by omega, HJ⟩
   case round =>
    clear HJ HI
    obtain ⟨q, rfl, hq, HQ⟩ := hrel
    by_cases hlq : q < m
    ·have hql : q < l.length := by rw [HLM.out]; exact hlq
     obtain ⟨bk, hxe, hbl, c0, c1', c2, c3, c4, c5⟩ := (HX.out.below HQ.out.below) q hql
     have HKL := Lib.hid (HM.out.2 _ (List.getElem_mem hql))
     have HFS := Lib.hid (fold_step l acc q hql)
     generalize l[q] = k at c0 c1' c2 c3 c4 c5 HKL HFS
     have HADD : Hid (∀ o, Calls Tryz.prog 32 #[.pointer (some ⟨S, 0, none⟩), kAgg k] (wr.alloc o) fun e w' => e = .returned (.int .i64 (addE ((l.take q).foldl addK acc) k)) ∧ Added (wr.alloc o) S (addK ((l.take q).foldl addK acc) k) w') := Lib.hid fun o => by
      have h := HQ.out.below' (below_one wr o)
      obtain ⟨y, cy, hy⟩ := h.set
      exact add_any _ k S y cy _ hy h.sorted h.len (HS.out.1.below h.below) (HS.out.2.1.below h.below) (HS.out.2.2.below h.below) HKL.out.1 HKL.out.2.1 HKL.out.2.2
     obtain ⟨kn, kk, kd, kl, km, kt⟩ := k
     unfold kAgg at HADD
     simp only at HADD
     simp only at c0 c1' c2 c3 c4 c5
     have r1 : (0 : Int) ≤ q := by omega
     have r2 : (q : Int) < m := by omega
     clear hql
     subst hxe
     go_wp2_with fail
     refine (HADD.out _).mono ?_
     rintro e w9 ⟨rfl, ha9⟩
     have HN9 : Hid (SetIn w w9 S ((l.take (q + 1)).foldl addK acc)) := Lib.hid (by rw [HFS.out]; exact (HQ.out.below' (below_one wr _)).added ha9)
     clear ha9
     go_wp2
     go_roundw
     case rel => exact ⟨q + 1, by go_num, by omega, HN9⟩
     case measure => simp [intOf]; omega
    ·go_wp2
     go_roundw
     case rel => exact ⟨t + 1, by go_num, by omega, Lib.hid (by rw [HF.out, ← List.take_of_length_le (l := l) (i := q) (by rw [HLM.out]; omega)]; exact HQ.out)⟩
     case measure => simp [intOf]; omega
  ·have e : t = n := by omega
   subst e
   have HE : Hid (SetIn w wr S (ls.flatten.foldl addK [])) := Lib.hid (by
    have := HI.out
    rw [← HN.out, List.take_length] at this
    exact this)
   have q2 : ¬ (t : Int) < t := by omega
   go_wp2
   go_ret
   exact ⟨S, rfl, HE.out⟩
end Go.Proofs.YtopghlnoklajkaaGreatDoor

namespace Go.Proofs.YtopghlnoklajkaaGreatDoor
open Go.ChangeShapes Go.WideShapes Go.ChangeAt Go.RowKit

theorem std_small : ∀ l ∈ [netL, logL, sbL], l.length ≤ 1000 ∧ ∀ k ∈ l, Small k := by
 have h : ([netL, logL, sbL].all fun l => decide (l.length ≤ 1000) && l.all fun k => decide (k.name.size ≤ 4294967280) && (decide (k.dflt.size ≤ 4294967280) && decide (k.letter.size ≤ 4294967280))) = true := by kernel_rfl
 intro l hl
 have h1 := List.all_eq_true.1 h l hl
 simp only [Bool.and_eq_true, decide_eq_true_eq] at h1
 refine ⟨h1.1, fun k hk => ?_⟩
 have h2 := List.all_eq_true.1 h1.2 k hk
 simp only [Bool.and_eq_true, decide_eq_true_eq] at h2
 exact h2
set_option maxHeartbeats 1600000 in
set_option maxRecDepth 100000 in
theorem standard_any (w : World) (hT : Tab w) (hU : Units w) (hM : MaxI w) : Calls Tryz.prog 24 #[] w fun e w' => ∃ S, e = .returned (.pointer (some ⟨S, 0, none⟩)) ∧ SetIn w w' S stdL := by
 have HT : Hid (∀ w3, Below w.heap.size w w3 → ∀ L c, ListsAt w3 L [netL, logL, sbL] → Calls Tryz.prog 51 #[.slice (some ⟨L, 0, none⟩) 3 c] w3 fun e w' => ∃ S, e = .returned (.pointer (some ⟨S, 0, none⟩)) ∧ SetIn w3 w' S stdL) := Lib.hid fun w3 hb L c hl => by
  have h := together_any [netL, logL, sbL] L c w3 hl (by decide) std_small (hT.below hb) (hU.below hb) (hM.below hb)
  rw [show [netL, logL, sbL].flatten = netL ++ logL ++ sbL by simp, std_fold] at h
  exact h
 clear hT hU hM
 go_enter Tryz.func24, Tryz.ntmps24
 go_wp2_with fail
 refine (netKeys_any _).mono ?_
 rintro e w1 ⟨g1, rfl, hk1, hn1, hb1⟩
 rw [show netL.length = 5 from rfl]
 go_wp2_with fail
 refine (logKeys_any _).mono ?_
 rintro e w2 ⟨g2, rfl, hk2, hn2, hb2⟩
 rw [show logL.length = 3 from rfl]
 go_wp2_with fail
 refine (storeAndBootKeys_any _).mono ?_
 rintro e w3 ⟨g3, rfl, hk3, hn3, hb3⟩
 rw [show sbL.length = 8 from rfl]
 have HB3 : Hid (Below w.heap.size w w3) := Lib.hid ((hb1.trans (hb2.mono hb1.size)).trans (hb3.mono (Nat.le_trans hb1.size hb2.size)))
 have HL : Hid (∀ t, ListsAt (w3.alloc (Obj.cells #[.slice (some ⟨g1, 0, none⟩) 5 5, .slice (some ⟨g2, 0, none⟩) 3 3, .slice (some ⟨g3, 0, none⟩) 8 8] t)) w3.heap.size [netL, logL, sbL]) := Lib.hid fun t => by
  refine ⟨by simp, fun i hi => ?_⟩
  have h3 : i = 0 ∨ i = 1 ∨ i = 2 := by simp at hi; omega
  rcases h3 with rfl | rfl | rfl
  ·exact ⟨some ⟨g1, 0, none⟩, 5, by simp; rfl, ((hk1.below hb2).below hb3).below (below_one _ _)⟩
  ·exact ⟨some ⟨g2, 0, none⟩, 3, by simp; rfl, (hk2.below hb3).below (below_one _ _)⟩
  ·exact ⟨some ⟨g3, 0, none⟩, 8, by simp; rfl, hk3.below (below_one _ _)⟩
 clear hk1 hn1 hb1 hk2 hn2 hb2 hk3 hn3 hb3
 go_wp2_with fail
 refine (HT.out _ (HB3.out.trans ((below_one w3 _).mono HB3.out.size)) _ _ (HL.out _)).mono ?_
 rintro e w4 ⟨S, rfl, hs⟩
 have HE : Hid (SetIn w w4 S stdL) := Lib.hid (by
  have hb0 := HB3.out.trans ((below_one w3 (Obj.cells #[.slice (some ⟨g1, 0, none⟩) 5 5, .slice (some ⟨g2, 0, none⟩) 3 3, .slice (some ⟨g3, 0, none⟩) 8 8] 32)).mono HB3.out.size)
  exact ⟨hs.set, HB3.out.trans (((below_one w3 _).mono HB3.out.size).trans (hs.below.mono hb0.size)), Nat.le_trans hb0.size hs.new, hs.sorted, hs.len⟩)
 clear hs
 go_wp2
 go_ret
 exact ⟨S, rfl, HE.out⟩

def findK (xs : List KeyV) (nm : ByteArray) : Option KeyV := xs.find? fun k => decide (k.name = nm)
theorem find_drop {xs : List KeyV} {nm : ByteArray} {t : Nat} (h : t < xs.length) : findK (xs.drop t) nm = if decide (xs[t].name = nm) then some xs[t] else findK (xs.drop (t + 1)) nm := by
 unfold findK
 rw [List.drop_eq_getElem_cons h, List.find?_cons]
 cases decide (xs[t].name = nm) <;> rfl
set_option maxHeartbeats 1600000 in
set_option maxRecDepth 100000 in
theorem clone6_any (xs : List KeyV) (b c : Nat) (w : World) (hx : Keys w (some ⟨b, 0, none⟩) xs) (h0 : 0 < xs.length) (hn : xs.length ≤ 1000000) :
  Calls Tryz.prog 120 #[.slice (some ⟨b, 0, none⟩) xs.length c] w (InsRes w xs) := by
 have hg : ∀ t, ∃ c' cur, (∀ ty, (Builtin.append_ #[32, 32] ty #[.slice (some ⟨w.heap.size, 0, none⟩) 0 0, .slice (some ⟨b, 0, none⟩) xs.length c]).run Tryz.prog (w.alloc (Obj.cells #[] t)) = .ok (.slice (some ⟨w.heap.size + 1, 0, none⟩) xs.length c') ((w.alloc (Obj.cells #[] t)).drew.alloc (.cells cur 73))) ∧ InsRes w xs (.returned (.slice (some ⟨w.heap.size + 1, 0, none⟩) xs.length c')) ((w.alloc (Obj.cells #[] t)).drew.alloc (.cells cur 73)) := fun t => by
  have hb := below_one w (Obj.cells #[] t)
  obtain ⟨c', cur, hr, h1, _, h3⟩ := grow_run (w.alloc (Obj.cells #[] t)) w.heap.size 0 0 [] rfl (fun j v hv => by simp at hv) b 0 xs.length c (flat xs) (flat_len xs) (fun j v hv => by rw [Nat.zero_add]; exact (hx.below hb).flat j v hv) 0 (by omega) (by omega)
  rw [Nat.zero_add] at hr h1
  have hsz : (w.alloc (Obj.cells #[] t)).heap.size = w.heap.size + 1 := by simp
  rw [hsz] at hr
  refine ⟨c', cur, hr, _, c', rfl, Nat.le_succ _, h1, ?_, hb.trans ((below_drew_alloc _ _).mono hb.size)⟩
  rw [← hsz]
  exact Keys.of_block (t := 73) (fr := (0, 0)) (heap_alloc_new (w.alloc (Obj.cells #[] t)).drew _) h3
 obtain ⟨c', cur, hr, hE⟩ := hg 73
 have HR := Lib.hid hr
 have HE := Lib.hid hE
 clear hr hE hx hg
 generalize xs.length = n at *
 have hq : ∀ (w : World) (a : Option Addr) (n c n' c' : Nat), (binOp .eql 32 (.slice a n c) (.slice none n' c')).run Tryz.prog w = .ok (.bool a.isNone) w := fun w a n c n' c' => Lib.run_eql_slice_nil w _ _ a n c n' c' Tryz.underlying32
 go_enter Tryz.func120, Tryz.ntmps120
 go_wp2_with (at_builtin; refine wpList_append_eq rfl _ _ _ _ rfl _ _ _ rfl rfl (HR.out _) ?_)
 go_ret
 exact HE.out
set_option maxRecDepth 100000 in
theorem all_any (xs : List KeyV) (S : Nat) (x : Option Addr) (c : Nat) (w : World) (h : SetAt w S x c xs) (h0 : 0 < xs.length) (hn : xs.length ≤ 1000000) :
  Calls Tryz.prog 88 #[.pointer (some ⟨S, 0, none⟩)] w (InsRes w xs) := by
 have hc := h.cell
 obtain ⟨b, hxe, _⟩ := h.keys 0 h0
 subst hxe
 have HC := Lib.hid (clone6_any xs b c w h.keys h0 hn)
 clear h
 go_enter Tryz.func88, Tryz.ntmps88
 go_wp2_with fail
 refine HC.out.mono ?_
 rintro e w' ⟨g, c', rfl, h1, h2, h3, h4⟩
 have HE : Hid (InsRes w xs (.returned (.slice (some ⟨g, 0, none⟩) xs.length c')) w') := Lib.hid ⟨g, c', rfl, h1, h2, h3, h4⟩
 clear h1 h2 h3 h4 HC
 go_wp2
 go_ret
 exact HE.out
end Go.Proofs.YtopghlnoklajkaaGreatDoor
