/-
  JnlRec.
-/
import Derived.Test.YtlommddabccdeaaGreatDoorQJnlHead
import Derived.Deep.AppendLies
namespace Go.Proofs.YtlommddabccdeaaGreatDoor
open Go.ChangeShapes Go.WideShapes Go.ChangeAt Go.RowKit

def sV (l : List UInt8) : Value := .string (bOf l)
structure OwnS (B : Nat) (w : World) (v : Value) (ts : List (List UInt8)) : Prop where
 own : w.ownsRow B 9 1 v ts.length (ts.map sV)
theorem OwnS.nil_ (B : Nat) (w : World) : OwnS B w (.slice none 0 0) [] := ⟨World.ownsRow_nil _ _ _ _⟩
theorem infoStr : (Tryz.prog.info? 9).map (fun i => (i.zero, i.size, i.bytes)) = some (some (.string ⟨#[]⟩), 1, 16) := by kernel_rfl
theorem OwnS.shape {B : Nat} {w : World} {v : Value} {ts : List (List UInt8)} (h : OwnS B w v ts) : (v = .slice none 0 0 ∧ ts = []) ∨ ∃ g cap, v = .slice (some ⟨g, 0, none⟩) ts.length cap ∧ B ≤ g ∧ g < w.heap.size ∧ ∀ k (hk : k < ts.length), w.cell? ⟨g, k, none⟩ = some (sV ts[k]) := by
 have ho := h.own
 rcases ho.2 with ⟨rfl, hn⟩ | ⟨g, cap, cur, rfl, h4, h5, _⟩
 ·exact .inl ⟨rfl, List.eq_nil_of_length_eq_zero hn⟩
 ·refine .inr ⟨g, cap, rfl, h4, lt_of_heap h5, fun k hk => ?_⟩
  have := ho.cellAt k (by omega)
  rw [this, List.getElem?_map, List.getElem?_eq_getElem hk]
  rfl
theorem OwnS.kept {B : Nat} {w w' : World} {v : Value} {ts : List (List UInt8)} (h : OwnS B w v ts) (hk : ∀ g, v.ownBlock = some g → w'.heap[g]? = w.heap[g]?) : OwnS B w' v ts := by
 obtain ⟨h1, h2⟩ := h.own
 refine ⟨h1, ?_⟩
 rcases h2 with h3 | ⟨g, cap, cur, rfl, h4, h5, h6⟩
 ·exact .inl h3
 ·exact .inr ⟨g, cap, cur, rfl, h4, by rw [hk g rfl]; exact h5, h6⟩
theorem OwnS.lt {B : Nat} {w : World} {v : Value} {ts : List (List UInt8)} (h : OwnS B w v ts) {g : Nat} (hg : v.ownBlock = some g) : B ≤ g ∧ g < w.heap.size := World.ownsRow.lt h.own g hg
theorem OwnS.below {B : Nat} {w w' : World} {v : Value} {ts : List (List UInt8)} (h : OwnS B w v ts) (hb : Below w.heap.size w w') : OwnS B w' v ts := h.kept fun g hg => hb.block g (h.lt hg).2
theorem appendSt {ops : Array Oper} {rest : List Oper} {o : Oper} {a : Act} {Q : Exit → Act → World → Prop} (hgd : o.guard = none) (s x : Operand)
  (ho : o.op = .call { callee := .builtin .append, args := #[s, x], argTypes := #[89, 89] }) {B : Nat} {w : World} {v : Value} {ts : List (List UInt8)} (hown : OwnS B w v ts) (hB : B ≤ w.heap.size) (hn : ts.length ≤ 10000000) (hs : a.eval s = v)
  {t : List UInt8} {c g : Nat} (hx : a.eval x = .slice (some ⟨g, 0, none⟩) 1 c) (hg : g = w.heap.size)
  (h : ∀ k cap w', OwnS B w' (.slice (some ⟨k, 0, none⟩) (ts.length + 1) cap) (ts ++ [t]) → (w.alloc (Obj.cells #[.string (bOf t)] 9)).grownBy w' v.ownBlock → wpList Tryz.prog ops Q rest (a.put o.dst (.slice (some ⟨k, 0, none⟩) (ts.length + 1) cap)) w') :
  wpList Tryz.prog ops Q (o :: rest) a (w.alloc (Obj.cells #[.string (bOf t)] 9)) := by
 subst hg
 obtain ⟨i0, hi, hz0, hz1, hz2⟩ := info_parts infoStr
 refine wpList_append_lies _ hgd s x _ ho B 9 i0 _ 1 16 Tryz.underlying89 hi hz0 hz1 hz2 rfl (by decide) v ts.length (ts.map sV) hs (hown.own.alloc _) ⟨w.heap.size, 0, none⟩ 1 c [sV t] hx rfl (World.news_of_block (heap_alloc_new w _)) ?_ (by decide) (by unfold maxLen; omega) (by omega) (Nat.le_trans hB ((Below.refl _ w).alloc (Nat.le_refl _) _).size) _ rfl ?_
 ·intro u' hu'
  rw [List.mem_singleton.1 hu']; rfl
 ·intro y cap w1 h1 h2 _ _
  exact h y cap w1 ⟨by simpa using h1⟩ h2
theorem stringsClone_any (s : ByteArray) (w : World) (hs : s.size ≤ 281474976710656) :
  Calls Tryz.prog 68 #[.string s] w fun e w' => e = .returned (.string s) ∧ Below w.heap.size w w' := by
 have HC := Lib.hid (Any.stringslite_Clone Tryz.laysM316 s w hs)
 clear hs
 go_enter Tryz.func68, Tryz.ntmps68
 go_wp2_with (refine HC.out.mono ?_; rintro e w2 ⟨rfl, hb2⟩; have HB2 := Lib.hid hb2; clear hb2)
 go_ret
 exact ⟨rfl, HB2.out⟩
theorem eq_bOf {s : ByteArray} {l : List UInt8} (h : s.data.toList = l) : s = bOf l := by rw [← h, bOf_self]
theorem bOf_ext (l : List UInt8) (a b : Nat) : (bOf l).extract a b = bOf ((l.take b).drop a) := eq_bOf (by rw [ext_list, bOf_list])
def strSize : Value → Nat
 | .string b => b.size
 | _ => 0
theorem recs_len (rs : List (List UInt8)) : rs.length * 2 ≤ (rs.flatMap recL).length := by
 induction rs with
 | nil => simp
 | cons r rs ih =>
  rw [List.flatMap_cons, List.length_append, recL_len, List.length_cons]
  omega
set_option maxHeartbeats 1600000 in
theorem recordsIn_any (w : World) (rs : List (List UInt8)) (hl : ∀ r ∈ rs, r.length ≤ 60000) (ht : (rs.flatMap recL).length ≤ 1000000) :
  Calls Tryz.prog 85 #[.string (bOf (rs.flatMap recL))] w fun e w' => ∃ v', e = .returned (.tuple #[v', .bool true]) ∧ OwnS w.heap.size w' v' rs ∧ Below w.heap.size w w' := by
 have HL := Lib.hid hl
 have HT := Lib.hid ht
 have HN := Lib.hid (recs_len rs)
 have HNO : Hid (∀ (W : World) (x : ByteArray), x.size ≤ 8 → ∀ k, numL x.data.toList = k → k ≤ 60000 → Calls Tryz.prog 82 #[.string x] W fun e w' => e = .returned (.int .i64 k) ∧ W = w') := Lib.hid fun W x hx k hk hk2 => by
  have := numberOf_any W x hx (by omega)
  rw [hk] at this
  exact this
 have HCL := Lib.hid fun (x : ByteArray) (W : World) => stringsClone_any x W
 clear hl ht
 go_enter Tryz.func85, Tryz.ntmps85
 go_wp2
 go_loopw [0, 4, 5] (fun s all _ wr => ∃ done rest, Hid (rs = done ++ rest) ∧ s = .string (bOf (rest.flatMap recL)) ∧ Hid (OwnS w.heap.size wr all done ∧ Below w.heap.size w wr)) (fun s _ _ _ => strSize s)
 case atStart => exact ⟨[], rs, Lib.hid rfl, rfl, Lib.hid ⟨OwnS.nil_ _ _, Below.refl _ _⟩⟩
 case round =>
  obtain ⟨done, rest, HE, rfl, HR⟩ := hrel
  match rest with
  | [] =>
   have q1 : (bOf (([] : List (List UInt8)).flatMap recL)).toList.isEmpty = true := by rw [Lib.toList_data, bOf_list]; rfl
   generalize bOf (([] : List (List UInt8)).flatMap recL) = X at *
   go_wp2
   go_ret2
   have e1 := HE.out
   rw [List.append_nil] at e1
   subst e1
   exact ⟨_, rfl, HR.out⟩
  | r :: rest =>
   obtain ⟨tl, htl⟩ : ∃ tl, rest.flatMap recL = tl := ⟨_, rfl⟩
   have hx : (r :: rest).flatMap recL = numB 2 r.length ++ (r ++ tl) := by
    rw [List.flatMap_cons, htl, recL, List.append_assoc]
   have hr : r.length ≤ 60000 := HL.out r (by rw [HE.out]; simp)
   have htot : 2 + r.length + tl.length ≤ 1000000 := by
    have h1 := HT.out
    rw [HE.out, List.flatMap_append, hx, htl.symm] at h1
    simp only [List.length_append, numB_len] at h1
    rw [htl] at h1
    omega
   have hdl : done.length ≤ 10000000 := by
    have h1 := HN.out
    have h2 := HT.out
    rw [HE.out, List.length_append] at h1
    rw [HE.out] at h2
    omega
   rw [hx]
   have h0 : (bOf (numB 2 r.length ++ (r ++ tl))).toList.isEmpty = false := by
    rw [Lib.toList_data, bOf_list]
    cases h : numB 2 r.length with
    | nil => have := numB_len 2 r.length; rw [h] at this; cases this
    | cons a b => rfl
   have hxs : (bOf (numB 2 r.length ++ (r ++ tl))).size = 2 + r.length + tl.length := by rw [bOf_size]; simp [numB_len]; omega
   have e2 : (bOf (numB 2 r.length ++ (r ++ tl))).extract 0 2 = bOf (numB 2 r.length) := by
    rw [bOf_ext, List.drop_zero, List.take_append_of_le_length (by rw [numB_len]; exact Nat.le_refl _), List.take_of_length_le (by rw [numB_len]; exact Nat.le_refl _)]
   have eY : (bOf (numB 2 r.length ++ (r ++ tl))).extract 2 (2 + r.length + tl.length) = bOf (r ++ tl) := by
    rw [bOf_ext, List.take_of_length_le (by simp [numB_len]; omega), List.drop_append_of_le_length (by rw [numB_len]; exact Nat.le_refl _), List.drop_of_length_le (by rw [numB_len]; exact Nat.le_refl _), List.nil_append]
   have hys : (bOf (r ++ tl)).size = r.length + tl.length := by rw [bOf_size, List.length_append]
   have eR : (bOf (r ++ tl)).extract 0 r.length = bOf r := by
    rw [bOf_ext, List.drop_zero, List.take_left]
   have eT : (bOf (r ++ tl)).extract r.length (r.length + tl.length) = bOf tl := by
    rw [bOf_ext, List.take_of_length_le (by rw [List.length_append]; exact Nat.le_refl _), List.drop_left]
   have HNU : Hid (∀ W, Calls Tryz.prog 82 #[.string (bOf (numB 2 r.length))] W fun e w' => e = .returned (.int .i64 (r.length : Int)) ∧ W = w') := Lib.hid fun W => HNO.out W _ (by rw [bOf_size, numB_len]; decide) r.length (by rw [bOf_list, numL_numB 2 _ (by omega)]) hr
   have HC := Lib.hid fun W => HCL.out (bOf r) W (by rw [bOf_size]; omega)
   have HR' := Lib.hid (And.intro HR.out.1 HR.out.2)
   have HTL : Hid (rest.flatMap recL = tl) := Lib.hid htl
   have HDL := Lib.hid hdl
   have hms : strSize (.string (bOf tl)) < strSize (.string (bOf (numB 2 r.length ++ (r ++ tl)))) := by
    show (bOf tl).size < (bOf (numB 2 r.length ++ (r ++ tl))).size
    rw [hxs, bOf_size]; omega
   have HMS := Lib.hid hms
   obtain ⟨n, hn⟩ : ∃ n, r.length = n := ⟨_, rfl⟩
   obtain ⟨m, hm⟩ : ∃ m, tl.length = m := ⟨_, rfl⟩
   rw [hn] at hxs hr htot hys e2 eY eR eT h0 HNU HMS ⊢
   rw [hm] at hxs htot hys eY eT
   obtain ⟨X, hX⟩ : ∃ X, bOf (numB 2 n ++ (r ++ tl)) = X := ⟨_, rfl⟩
   obtain ⟨P2, hP2⟩ : ∃ P2, bOf (numB 2 n) = P2 := ⟨_, rfl⟩
   obtain ⟨Y, hY⟩ : ∃ Y, bOf (r ++ tl) = Y := ⟨_, rfl⟩
   rw [hX] at e2 eY h0 hxs HMS ⊢
   rw [hP2] at e2 HNU
   rw [hY] at eY hys eR eT
   obtain ⟨SX, hSX⟩ : ∃ SX, 2 + n + m = SX := ⟨_, rfl⟩
   obtain ⟨SY, hSY⟩ : ∃ SY, n + m = SY := ⟨_, rfl⟩
   rw [hSX] at hxs eY
   rw [hSY] at hys eT
   have q1 : (n : Int) ≤ SY := by omega
   have q2 : (n : Int) ≤ 60000 := by omega
   have q3 : ¬ (SX : Int) < 2 := by omega
   have q4 : 2 ≤ SX := by omega
   have q5 : n ≤ SY := by omega
   have q6 : ¬ (n : Int) > min (SY : Int) 60000 := by omega
   have q7 : (0 : Int) ≤ n := by omega
   clear hx hdl hn hm hX hP2 hY htl hms hSX hSY hr htot
   go_wp2_with (first
    | (go_at_call 82; (with_reducible refine (HNU.out _).mono ?_); rintro e w2 ⟨rfl, rfl⟩)
    | (go_at_call 68; (with_reducible refine (HC.out _).mono ?_); rintro e w3 ⟨rfl, hb3⟩; have HB3 := Lib.hid hb3; clear hb3)
    | (at_builtin; refine appendSt rfl _ _ rfl ((HR'.out.1.below HB3.out)) (Nat.le_trans HR'.out.2.size HB3.out.size) HDL.out rfl (t := r) rfl rfl ?_; intro k cap w5 ho5 hg5; have HG5 := Lib.hid (And.intro ho5 hg5); clear ho5 hg5))
   have hbe : Below w.heap.size w w5 := ((HR'.out.2.trans (HB3.out.mono HR'.out.2.size)).alloc (Nat.le_trans HR'.out.2.size HB3.out.size) _).grown HG5.out.2 (by have h1 := HR'.out.2.size; have h2 := HB3.out.size; simp; omega) (fun k hk => (HR'.out.1.lt hk).1)
   have HBE := Lib.hid hbe
   clear hbe
   go_roundw
   case rel => exact ⟨done ++ [r], rest, Lib.hid (by rw [HE.out]; simp), by rw [HTL.out], Lib.hid ⟨by have h := HG5.out.1; rw [show done.length + 1 = (done ++ [r]).length by simp] at h ⊢; exact h, HBE.out⟩⟩
   case measure => exact HMS.out
end Go.Proofs.YtlommddabccdeaaGreatDoor
