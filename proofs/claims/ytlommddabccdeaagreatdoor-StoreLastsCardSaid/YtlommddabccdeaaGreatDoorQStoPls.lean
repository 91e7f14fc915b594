/-
  StoPls.
-/
import Derived.Test.YtlommddabccdeaaGreatDoorQStoOrd
import Derived.Test.YtlommddabccdeaaGreatDoorQStoMap
import Derived.Test.YtlommddabccdeaaGreatDoorQJnlRec
import Derived.Test.YtlommddabccdeaaGreatDoorQPrKit
import Derived.Test.YtlommddabccdeaaGreatDoorShelf
import Derived.Test.YtlommddabccdeaaGreatDoorShelfK
import Derived.Deep.RegionHeld3
namespace Go.Proofs.YtlommddabccdeaaGreatDoor
open Go.ChangeShapes Go.WideShapes Go.ChangeAt Go.RowKit

def encPl (x : Plc) : List Value := [.string x.1, .string x.2]
def qFlat (l : List Plc) : List Value := l.flatMap encPl
theorem qFlat_append (a b : List Plc) : qFlat (a ++ b) = qFlat a ++ qFlat b := by unfold qFlat; rw [List.flatMap_append]
theorem qFlat_one' (x : Plc) : qFlat [x] = encPl x := by unfold qFlat; simp
theorem encPl_one (x : Plc) : ∀ v ∈ encPl x, v.oneCell' = true := by
 intro u hu
 unfold encPl at hu
 simp only [List.mem_cons, List.not_mem_nil, or_false] at hu
 rcases hu with rfl | rfl <;> rfl
theorem qFlat_at (ls : List Plc) : ∀ k (h : k < ls.length) j, j < 2 → (qFlat ls)[k * 2 + j]? = (encPl ls[k])[j]? := by
 unfold qFlat
 induction ls with
 | nil => intro k h; cases h
 | cons l r ih =>
  intro k h j hj
  rw [List.flatMap_cons]
  cases k with
  | zero => rw [List.getElem?_append_left (by simp [encPl]; omega)]; simp
  | succ k =>
   rw [List.getElem?_append_right (by simp [encPl]; omega)]
   have : (k + 1) * 2 + j - (encPl l).length = k * 2 + j := by simp [encPl]; omega
   rw [this, ih k (by simpa using h) j hj]; simp
def PlsAt (w : World) (x : Option Addr) (l : List Plc) : Prop :=
 ∀ k (h : k < l.length), ∃ b off, x = some ⟨b, off, none⟩ ∧ b < w.heap.size ∧ w.cell? ⟨b, off + k * 2, none⟩ = some (.string l[k].1) ∧ w.cell? ⟨b, off + k * 2 + 1, none⟩ = some (.string l[k].2)
theorem PlsAt.nil_ (w : World) (x : Option Addr) : PlsAt w x [] := fun k h => absurd h (by simp)
theorem PlsAt.below {w w' : World} {x : Option Addr} {l : List Plc} (h : PlsAt w x l) (hb : Below w.heap.size w w') : PlsAt w' x l := fun k hk => by
 obtain ⟨b, off, e, hl, c0, c1⟩ := h k hk
 exact ⟨b, off, e, Nat.lt_of_lt_of_le hl hb.size, by rw [hb.cell (p := ⟨b, off + k * 2, none⟩) hl]; exact c0, by rw [hb.cell (p := ⟨b, off + k * 2 + 1, none⟩) hl]; exact c1⟩
structure OwnQ (B : Nat) (w : World) (v : Value) (l : List Plc) : Prop where
 own : w.ownsRow B 66 2 v l.length (qFlat l)
theorem OwnQ.nil_ (B : Nat) (w : World) : OwnQ B w (.slice none 0 0) [] := ⟨World.ownsRow_nil _ _ _ _⟩
theorem OwnQ.lt {B : Nat} {w : World} {v : Value} {l : List Plc} (h : OwnQ B w v l) {g : Nat} (hg : v.ownBlock = some g) : B ≤ g ∧ g < w.heap.size := World.ownsRow.lt h.own g hg
theorem OwnQ.kept {B : Nat} {w w' : World} {v : Value} {l : List Plc} (h : OwnQ B w v l) (hk : ∀ g, v.ownBlock = some g → w'.heap[g]? = w.heap[g]?) : OwnQ B w' v l := by
 obtain ⟨h1, h2⟩ := h.own
 refine ⟨h1, ?_⟩
 rcases h2 with h3 | ⟨g, cap, cur, rfl, h4, h5, h6⟩
 ·exact .inl h3
 ·exact .inr ⟨g, cap, cur, rfl, h4, by rw [hk g rfl]; exact h5, h6⟩
theorem infoPlc : (Tryz.prog.info? 66).map (fun i => (i.zero, i.size, i.bytes)) = some (some (.agg #[.string ByteArray.empty, .string ByteArray.empty]), 2, 32) := by kernel_rfl
theorem appendQ {ops : Array Oper} {rest : List Oper} {o : Oper} {a : Act} {Q : Exit → Act → World → Prop} (hgd : o.guard = none) (s x : Operand)
  (ho : o.op = .call { callee := .builtin .append, args := #[s, x], argTypes := #[79, 79] }) {B : Nat} {w : World} {v : Value} {l : List Plc} (hown : OwnQ B w v l) (hB : B ≤ w.heap.size) (hn : l.length ≤ 10000000) (hs : a.eval s = v)
  {t k : ByteArray} {c g : Nat} (hx : a.eval x = .slice (some ⟨g, 0, none⟩) 1 c) (hg : g = w.heap.size)
  (h : ∀ y cap w', OwnQ B w' (.slice (some ⟨y, 0, none⟩) (l.length + 1) cap) (l ++ [(t, k)]) → (w.alloc (Obj.cells #[.string t, .string k] 66)).grownBy w' v.ownBlock → wpList Tryz.prog ops Q rest (a.put o.dst (.slice (some ⟨y, 0, none⟩) (l.length + 1) cap)) w') :
  wpList Tryz.prog ops Q (o :: rest) a (w.alloc (Obj.cells #[.string t, .string k] 66)) := by
 subst hg
 obtain ⟨i0, hi, hz0, hz1, hz2⟩ := info_parts infoPlc
 refine wpList_append_lies _ hgd s x _ ho B 66 i0 _ 2 32 Tryz.underlying79 hi hz0 hz1 hz2 rfl (by decide) v l.length (qFlat l) hs (hown.own.alloc _) ⟨w.heap.size, 0, none⟩ 1 c (encPl (t, k)) hx rfl (World.news_of_block (heap_alloc_new w _)) (encPl_one _) (by decide) (by unfold maxLen; omega) (by omega) (Nat.le_trans hB ((Below.refl _ w).alloc (Nat.le_refl _) _).size) _ rfl ?_
 intro y cap w1 h1 h2 _ _
 refine h y cap w1 ⟨?_⟩ h2
 rw [List.length_append, List.length_singleton, qFlat_append, qFlat_one']
 exact h1
theorem OwnQ.shape {B : Nat} {w : World} {v : Value} {l : List Plc} (h : OwnQ B w v l) : (v = .slice none 0 0 ∧ l = []) ∨ ∃ g cap, v = .slice (some ⟨g, 0, none⟩) l.length cap ∧ B ≤ g ∧ g < w.heap.size ∧ (∀ j u, (qFlat l)[j]? = some u → w.cell? ⟨g, j, none⟩ = some u) ∧ ∀ i, w.frozen? ⟨g, i, none⟩ = false := by
 have ho := h.own
 rcases ho.2 with ⟨rfl, hn⟩ | ⟨g, cap, cur, rfl, h4, h5, _⟩
 ·exact .inl ⟨rfl, List.eq_nil_of_length_eq_zero hn⟩
 ·refine .inr ⟨g, cap, rfl, h4, lt_of_heap h5, fun j u hj => ?_, fun i => by simp [World.frozen?, h5]⟩
  have := World.ownsRow.cells ho (g := g) rfl j u hj
  rw [addr_at, Nat.zero_add] at this
  exact this
theorem holdsQ {w : World} {g : Nat} {l : List Plc} (hc : ∀ j u, (qFlat l)[j]? = some u → w.cell? ⟨g, j, none⟩ = some u) (hf : ∀ i, w.frozen? ⟨g, i, none⟩ = false) : Go.Sort.HoldsK encPl 2 w g 0 l.toArray := by
 intro j hj
 rw [Go.Sort.size_flatK] at hj
 have hj2 : j < l.length * 2 := by simpa using hj
 have hk : j / 2 < l.length := by omega
 have h2 := qFlat_at l (j / 2) hk (j % 2) (by omega)
 rw [show j / 2 * 2 + j % 2 = j by omega] at h2
 rw [Go.Sort.get_flatK _ _ _ _ hj, Nat.zero_add]
 have e1 : l.toArray[j / 2]! = l[j / 2] := by rw [getElem!_pos _ _ (by simpa using hk)]; simp
 rw [e1]
 refine ⟨hc j _ (h2.trans ?_), hf _⟩
 rcases (by omega : j % 2 = 0 ∨ j % 2 = 1) with e | e <;> rw [e] <;> rfl
theorem upd_sorted {w : World} {g n : Nat} {os : Array Obj} (d : Array Plc) : Upd [g] w (sortWorldK encPl 2 w g 0 n d os) := by
 refine ⟨rfl, rfl, rfl, ?_, fun k hk hn => ?_⟩
 ·unfold sortWorldK
  rw [Go.Sort.size_grow]
  show w.heap.size ≤ (Go.Sort.putRowK encPl 2 (Go.Sort.ahead w n) g 0 d).heap.size + _
  unfold Go.Sort.putRowK
  rw [Go.Sort.size_putRow]
  exact Nat.le_add_right _ _
 ·have hne : g ≠ k := fun e => hn (by rw [e]; exact List.mem_cons_self)
  unfold sortWorldK Go.Sort.putRowK
  rw [Go.Sort.heap_grow_old _ _ (by simpa using hk)]
  simp [Go.Sort.putRow, Go.Sort.mapBlock, Go.Sort.ahead, Array.getElem?_modify, hne]
theorem scompare_any (a b : ByteArray) (w : World) : Calls Tryz.prog 96 #[.string a, .string b] w fun e w' => e = .returned (.int .i64 (cmpTx a b)) ∧ w = w' :=
 (Any.strings_Compare Tryz.lays106 a b w).mono fun _ _ ⟨he, hw⟩ => ⟨he, hw.symm⟩
theorem orI_any (w : World) (g c : Nat) (a b : Int) (ha : w.cell? ⟨g, 0, none⟩ = some (.int .i64 a)) (hb : w.cell? ⟨g, 1, none⟩ = some (.int .i64 b)) :
  Calls Tryz.prog 95 #[.slice (some ⟨g, 0, none⟩) 2 c] w fun e w' => e = .returned (.int .i64 (if a ≠ 0 then a else b)) ∧ w = w' := by
 go_enter Tryz.func95, Tryz.ntmps95
 go_wp2
 go_loopw [8] (fun i wr => ∃ t : Nat, i = .int .i64 t ∧ t ≤ 2 ∧ wr = w ∧ (0 < t → a = 0) ∧ (1 < t → b = 0)) (fun i _ => 2 - (intOf i).toNat)
 case atStart => exact ⟨0, rfl, by omega, rfl, fun h => absurd h (by omega), fun h => absurd h (by omega)⟩
 case round =>
  obtain ⟨t, rfl, ht, rfl, h0, h1⟩ := hrel
  rcases (by omega : t = 0 ∨ t = 1 ∨ t = 2) with rfl | rfl | rfl
  ·by_cases e : a = 0
   ·subst e
    go_wp2
    go_roundw
    case rel => exact ⟨1, rfl, by omega, by simp⟩
    case measure => simp [intOf]
   ·go_wp2
    go_ret
    simp
  ·have e := h0 (by omega)
   subst e
   by_cases e : b = 0
   ·subst e
    go_wp2
    go_roundw
    case rel => exact ⟨2, rfl, by omega, by simp⟩
    case measure => simp [intOf]
   ·go_wp2
    go_ret
    simp
  ·have e := h0 (by omega)
   have e2 := h1 (by omega)
   subst e e2
   go_wp2
   go_ret
   simp
theorem new0 {W : World} {n : Nat} {cs : Array Value} {T : TypeId} {v : Value} (hn : W.heap.size = n) (hc : cs[0]? = some v) : (W.alloc (.cells cs T)).cell? ⟨n, 0, none⟩ = some v := by
 subst hn
 rw [cell_of_row _ _ 0 _ _ _ (heap_alloc_new W _)]; exact hc
theorem new1 {W : World} {n : Nat} {cs : Array Value} {T : TypeId} {v : Value} (hn : W.heap.size = n) (hc : cs[1]? = some v) : (W.alloc (.cells cs T)).cell? ⟨n, 1, none⟩ = some v := by
 subst hn
 rw [cell_of_row _ _ 1 _ _ _ (heap_alloc_new W _)]; exact hc
theorem new0d {W : World} {n : Nat} {cs : Array Value} {T : TypeId} {v : Value} (hn : W.heap.size = n) (hc : cs[0]? = some v) : (W.alloc (.cells cs T)).drew.cell? ⟨n, 0, none⟩ = some v := new0 hn hc
theorem new1d {W : World} {n : Nat} {cs : Array Value} {T : TypeId} {v : Value} (hn : W.heap.size = n) (hc : cs[1]? = some v) : (W.alloc (.cells cs T)).drew.cell? ⟨n, 1, none⟩ = some v := new1 hn hc
theorem grown3 (w : World) (a b c : Obj) : ∃ q os, (((w.alloc a).alloc b).alloc c).drew = Go.Sort.grow (w.drewN q) os := ⟨1, #[a] ++ #[b] ++ #[c], by
 rw [Go.Sort.alloc_eq_grow, Go.Sort.alloc_eq_grow, Go.Sort.alloc_eq_grow, Go.Sort.grow_grow, Go.Sort.grow_grow]; rfl⟩
theorem byTK_any (x y : Plc) (w : World) : Calls Tryz.prog 61 #[.agg #[.string x.1, .string x.2], .agg #[.string y.1, .string y.2]] w fun e w' => e = .returned (.int .i64 (cmpPl x y)) ∧ ∃ q os, w' = Go.Sort.grow (w.drewN q) os := by
 obtain ⟨t, k⟩ := x
 obtain ⟨t', k'⟩ := y
 have HC : Hid (∀ a b W, Calls Tryz.prog 96 #[.string a, .string b] W fun e w' => e = .returned (.int .i64 (cmpTx a b)) ∧ W = w') := Lib.hid fun a b W => scompare_any a b W
 have HR : cmpPl (t, k) (t', k') = if cmpTx t t' ≠ 0 then cmpTx t t' else cmpTx k k' := rfl
 rw [HR]
 clear HR
 simp only
 have H1 := Lib.hid (HC.out t t')
 have H2 := Lib.hid (HC.out k k')
 clear HC
 generalize cmpTx t t' = A at *
 generalize cmpTx k k' = B at *
 have HO : Hid (∀ W g c, W.cell? ⟨g, 0, none⟩ = some (.int .i64 A) → W.cell? ⟨g, 1, none⟩ = some (.int .i64 B) → Calls Tryz.prog 95 #[.slice (some ⟨g, 0, none⟩) 2 c] W fun e w' => e = .returned (.int .i64 (if A ≠ 0 then A else B)) ∧ W = w') := Lib.hid fun W g c h1 h2 => orI_any W g c A B h1 h2
 obtain ⟨R, hR⟩ : ∃ R, (if A ≠ 0 then A else B) = R := ⟨_, rfl⟩
 rw [hR] at HO ⊢
 clear hR
 have HS0 : Hid (∀ t1 t2, let W := ((w.alloc (.cells #[.string t, .string k] t1)).alloc (.cells #[.string t', .string k'] t2)).drew; W.cell? ⟨w.heap.size, 0, none⟩ = some (.string t) ∧ W.cell? ⟨w.heap.size, 1, none⟩ = some (.string k) ∧ W.cell? ⟨w.heap.size + 1, 0, none⟩ = some (.string t') ∧ W.cell? ⟨w.heap.size + 1, 1, none⟩ = some (.string k')) := Lib.hid fun t1 t2 => by
  have h1 := heap_alloc_new w (.cells #[.string t, .string k] t1)
  have h2 := (heap_alloc_old (w.alloc (.cells #[.string t, .string k] t1)) (.cells #[.string t', .string k'] t2) (by simp : w.heap.size < _)).trans h1
  have h3 := heap_alloc_new (w.alloc (.cells #[.string t, .string k] t1)) (.cells #[.string t', .string k'] t2)
  have e : (w.alloc (.cells #[.string t, .string k] t1)).heap.size = w.heap.size + 1 := by simp
  rw [e] at h3
  exact ⟨cell_at h2 (k := 0) rfl, cell_at h2 (k := 1) rfl, cell_at h3 (k := 0) rfl, cell_at h3 (k := 1) rfl⟩
 go_enter Tryz.func61, Tryz.ntmps61
 go_wp2
 go_region_held3 (fun W => W.cell? ⟨w.heap.size, 0, none⟩ = some (.string t) ∧ W.cell? ⟨w.heap.size, 1, none⟩ = some (.string k) ∧ W.cell? ⟨w.heap.size + 1, 0, none⟩ = some (.string t') ∧ W.cell? ⟨w.heap.size + 1, 1, none⟩ = some (.string k'))
  (first | assumption | exact HS0.out _ _ | exact ⟨Lib.cell?_alloc_some _ (And.left (by assumption)), Lib.cell?_alloc_some _ (And.left (And.right (by assumption))), Lib.cell?_alloc_some _ (And.left (And.right (And.right (by assumption)))), Lib.cell?_alloc_some _ (And.right (And.right (And.right (by assumption))))⟩) (first
  | (go_at_call 96; (with_reducible refine (H1.out _).mono ?_); rintro e w2 ⟨rfl, rfl⟩; dsimp only)
  | (go_at_call 96; (with_reducible refine (H2.out _).mono ?_); rintro e w2 ⟨rfl, rfl⟩; dsimp only)
  | (go_at_call 95; refine (HO.out _ _ _ (new0d (by simp) rfl) (new1d (by simp) rfl)).mono ?_; rintro e w2 ⟨rfl, rfl⟩; dsimp only)
  | fail)
 all_goals
  go_wp2
  go_ret
  exact ⟨rfl, grown3 _ _ _ _⟩
theorem sortQ_any (w : World) (g c : Nat) (l : List Plc) (hn : l.Nodup) (hc : ∀ j u, (qFlat l)[j]? = some u → w.cell? ⟨g, j, none⟩ = some u) (hf : ∀ i, w.frozen? ⟨g, i, none⟩ = false) (hg : g < w.heap.size) (hl : l.length ≤ 10000000) :
  Calls Tryz.prog 60 #[.slice (some ⟨g, 0, none⟩) l.length c, .func (.func 61) #[] #[]] w fun e w' => e = .returned (.tuple #[]) ∧ ∃ l' : List Plc, l'.Perm l ∧ RisePl l' ∧ PlsAt w' (some ⟨g, 0, none⟩) l' ∧ Upd [g] w w' := by
 have hH := holdsQ hc hf
 have eg : ∀ args w, (callFunc 61 args).run Tryz.prog w = .ok (.enter 61 args) w := enters_of Tryz.func61 (by kernel_rfl) rfl
 have hcmp : CmpLays Tryz.prog 61 #[] encPl 2 cmpPl g 0 l.toArray.size w := fun _ _ _ _ x y => byTK_any x y _
 have hcon := AnyQ.slices_SortFunc Tryz.sortPl 2 (fun w => by kernel_rfl) (fun w => by kernel_rfl) encPl (fun _ => rfl) encPl_one cmpPl swoPl 61 #[] g 0 c l.toArray w eg hcmp hH hg (by simp; omega)
 change Calls Tryz.prog 60 _ _ _ at hcon
 rw [List.size_toArray] at hcon
 refine hcon.mono fun e w' ⟨he, d', n, os, hp, hs, hw⟩ => ?_
 obtain ⟨h1, _, h2⟩ := hp
 have e0 : d'.size = l.length := by rw [h1]; simp
 have hperm : d'.toList.Perm l := by
  have e1 : d'.extract 0 l.length = d' := by rw [← e0, Array.extract_size]
  have e2 : l.toArray.extract 0 l.length = l.toArray := by simp
  rw [e1, e2] at h2
  simpa using h2
 refine ⟨he, d'.toList, hperm, ?_, ?_, by rw [hw]; exact upd_sorted d'⟩
 ·have hnd : d'.toList.Nodup := hperm.nodup_iff.2 hn
  refine List.pairwise_iff_getElem.2 fun i j hi hj hij => ?_
  have hi2 : i < d'.size := by simpa using hi
  have hj2 : j < d'.size := by simpa using hj
  have hs2 := hs i j (Nat.zero_le _) hij (by omega)
  rw [ltOf_cmp, getElem!_pos d' i hi2, getElem!_pos d' j hj2] at hs2
  rw [Array.getElem_toList, Array.getElem_toList]
  cases hx : lessPl d'[i] d'[j] with
  | true => rfl
  | false =>
   exfalso
   have e := lessPl_tri hs2 hx
   have := (List.nodup_iff_pairwise_ne.1 hnd)
   have h5 := (List.pairwise_iff_getElem.1 this) i j hi hj hij
   rw [Array.getElem_toList, Array.getElem_toList] at h5
   exact h5 e
 ·have hH2 : Go.Sort.HoldsK encPl 2 w' g 0 d' := by rw [hw]; exact holdsK_sortWorldK encPl 2 w g 0 n l.toArray d' os hg hH (by rw [e0]; simp)
  intro k hk
  have hk2 : k < d'.size := by simpa using hk
  have c0 := (hH2.cell hk2 (c := 0) (by decide)).1
  have c1 := (hH2.cell hk2 (c := 1) (by decide)).1
  rw [getElem!_pos d' k hk2] at c0 c1
  refine ⟨g, 0, rfl, ?_, ?_, ?_⟩
  ·rw [hw]; exact Nat.lt_of_lt_of_le hg (upd_sorted d').size
  ·rw [Array.getElem_toList]; exact c0
  ·rw [Array.getElem_toList]; exact c1
end Go.Proofs.YtlommddabccdeaaGreatDoor
