/-
  Items that came in: what their cells hold, what is laid down of them; the walk of 'gets'.
-/
import Derived.Test.YtcfnkphdmkepaaaDoorCodecAgain0
import Derived.Deep.RegionHeld3
namespace Go.Proofs.YtcfnkphdmkepaaaDoor
open Go.ChangeShapes Go.WideShapes Go.ChangeAt Go.RowKit

structure ItemV where
  text : Bool
  n : Int
  more : Int
  s : ByteArray
def ItemV.ok (o : ItemV) : Prop := (-9223372036854775808 ≤ o.n ∧ o.n ≤ 9223372036854775807) ∧ (-9223372036854775808 ≤ o.more ∧ o.more ≤ 9223372036854775807) ∧ o.s.size ≤ 9223372036854775807
def ItemAt (w : World) (b off k : Nat) (o : ItemV) : Prop :=
  w.cell? ⟨b, off + k * 4, none⟩ = some (.bool o.text) ∧ w.cell? ⟨b, off + k * 4 + 1, none⟩ = some (.int .i64 o.n) ∧ w.cell? ⟨b, off + k * 4 + 2, none⟩ = some (.int .i64 o.more) ∧ w.cell? ⟨b, off + k * 4 + 3, none⟩ = some (.string o.s)
def Items (w : World) (x : Option Addr) (os : List ItemV) : Prop :=
  os.length ≤ 9223372036854775807 ∧ ∀ k (h : k < os.length), os[k].ok ∧ ∃ b off, x = some ⟨b, off, none⟩ ∧ b < w.heap.size ∧ ItemAt w b off k os[k]
theorem ItemAt.kept {w w' : World} {b off k : Nat} {o : ItemV} (h : ItemAt w b off k o) (hb : w'.heap[b]? = w.heap[b]?) : ItemAt w' b off k o := by
  have hc : ∀ j, w'.cell? ⟨b, j, none⟩ = w.cell? ⟨b, j, none⟩ := fun j => World.cell?_of_block (w := w) (a := ⟨b, j, none⟩) hb
  unfold ItemAt at h ⊢
  rw [hc, hc, hc, hc]; exact h

theorem numV_bd (n : Int) : 0 ≤ numV n ∧ numV n ≤ 4611686018427387904 := by
  unfold numV
  have h1 := Int.emod_nonneg (if n < 0 then -(n + 1) else n) (show (4611686018427387905 : Int) ≠ 0 by decide)
  have h2 := Int.emod_lt_of_pos (if n < 0 then -(n + 1) else n) (show (0 : Int) < 4611686018427387905 by decide)
  omega
/-- What is laid down of an item, and of many. -/
def itemRow (o : ItemV) : List UInt8 := if o.text then rowL (textV o.s).size ++ (textV o.s).data.toList else rowL (numV o.n).toNat
def enc : List ItemV → List UInt8
  | [] => []
  | o :: r => itemRow o ++ enc r
theorem enc_append (a b : List ItemV) : enc (a ++ b) = enc a ++ enc b := by
  induction a with
  | nil => rfl
  | cons o r ih => simp only [List.cons_append, enc, ih, List.append_assoc]
theorem enc_succ {l : List ItemV} {k : Nat} (h : k < l.length) : enc (l.take (k + 1)) = enc (l.take k) ++ itemRow l[k] := by
  rw [List.take_succ_eq_append_getElem h, enc_append]
  simp [enc]
theorem enc_drop {l : List ItemV} {k : Nat} (h : k < l.length) : enc (l.drop k) = itemRow l[k] ++ enc (l.drop (k + 1)) := by
  rw [List.drop_eq_getElem_cons h]; rfl
theorem itemRow_pos (o : ItemV) : 0 < (itemRow o).length := by
  unfold itemRow; split
  · have := rowL_pos (textV o.s).size
    rw [List.length_append]; omega
  · exact rowL_pos _
theorem itemRow_len (o : ItemV) : (itemRow o).length ≤ 100 + 2 * o.s.size := by
  unfold itemRow; split
  · have h1 := textV_size o.s
    have h2 := rowL_len3 h1.1
    have h3 : (textV o.s).data.toList.length = (textV o.s).size := by simp
    rw [List.length_append]; omega
  · have h1 := numV_bd o.n
    have h2 := rowL_len9 (n := (numV o.n).toNat) (by omega)
    omega
def totalI : List ItemV → Nat
  | [] => 0
  | o :: r => 100 + 2 * o.s.size + totalI r
theorem totalI_append (a b : List ItemV) : totalI (a ++ b) = totalI a + totalI b := by
  induction a with
  | nil => simp [totalI]
  | cons o r ih => simp only [List.cons_append, totalI, ih]; omega
theorem totalI_take (l : List ItemV) (k : Nat) : totalI (l.take k) ≤ totalI l := by
  have := totalI_append (l.take k) (l.drop k)
  rw [List.take_append_drop] at this; omega
theorem totalI_succ {l : List ItemV} {k : Nat} (h : k < l.length) : totalI (l.take (k + 1)) = totalI (l.take k) + 100 + 2 * l[k].s.size := by
  rw [List.take_succ_eq_append_getElem h, totalI_append]
  simp only [totalI]; omega
theorem enc_len (l : List ItemV) : (enc l).length ≤ totalI l := by
  induction l with
  | nil => simp [enc]
  | cons o r ih => have := itemRow_len o; simp only [enc, totalI, List.length_append]; omega
theorem totalI_len (l : List ItemV) : 100 * l.length ≤ totalI l := by
  induction l with
  | nil => simp
  | cons o r ih => simp only [List.length_cons, totalI]; omega
theorem add_sats (a b : Nat) : addV (sat a) (sat b) = sat (a + b) := by
  unfold addV sat; repeat' split
  all_goals omega

theorem textRow_item {o : ItemV} (h : o.text = true) : textRow (textV o.s).data.toList = (itemRow o, 0) := by
  have h1 := textV_size o.s
  have h3 : (textV o.s).data.toList.length = (textV o.s).size := by simp
  rw [textRow_took (by omega), itemRow, if_pos h, h3]
theorem numRow_item {o : ItemV} (h : o.text = false) : numRow (numV o.n) = (itemRow o, 0) := by
  have h1 := numV_bd o.n
  have h2 := numRow_took (n := (numV o.n).toNat) (by omega)
  rw [Int.toNat_of_nonneg h1.1] at h2
  rw [h2, itemRow, h]; simp

/-- What a Reader answers to an item, and holds behind it. -/
def mostI (o : ItemV) : Int := ((textV o.s).size : Int) + pickV o.more 70000
def getI (st : List UInt8 × Int) (o : ItemV) : Bool := if o.text then decide ((textR st (mostI o)).1 = (textV o.s).data.toList) else decide (((numR st).1 : Int) = numV o.n)
def nextI (st : List UInt8 × Int) (o : ItemV) : List UInt8 × Int := if o.text then (textR st (mostI o)).2 else (numR st).2
theorem get_right (o : ItemV) (r : List UInt8) : getI (itemRow o ++ r, 0) o = true ∧ nextI (itemRow o ++ r, 0) o = (r, 0) := by
  cases h : o.text with
  | true =>
    have h1 := textV_size o.s
    have h3 : (textV o.s).data.toList.length = (textV o.s).size := by simp
    have h4 := pickV_bd o.more 70000 (by decide)
    have e : textR (itemRow o ++ r, 0) (mostI o) = ((textV o.s).data.toList, r, 0) := by
      show takeT (itemRow o ++ r) (mostI o) = _
      rw [itemRow, if_pos h, ← h3]
      exact takeT_row (by omega) (by unfold mostI; omega)
    rw [getI, nextI, if_pos h, if_pos h, e]; simp
  | false =>
    have h1 := numV_bd o.n
    have e : numR (itemRow o ++ r, 0) = ((numV o.n).toNat, r, 0) := by
      show takeN (itemRow o ++ r) = _
      rw [itemRow, h]
      exact takeN_row (by omega) r
    rw [getI, nextI, h, e]
    simp; omega
theorem get_cut (o : ItemV) : nextI ((itemRow o).dropLast, 0) o = ([], 32) := by
  cases h : o.text with
  | true =>
    have h1 := textV_size o.s
    have h3 : (textV o.s).data.toList.length = (textV o.s).size := by simp
    have h4 := pickV_bd o.more 70000 (by decide)
    have e : textR ((itemRow o).dropLast, 0) (mostI o) = ([], [], 32) := by
      show takeT (itemRow o).dropLast (mostI o) = _
      rw [itemRow, if_pos h, ← h3]
      exact takeT_cut (by omega) (by unfold mostI; omega)
    rw [nextI, if_pos h, e]
  | false =>
    have h1 := numV_bd o.n
    have e : numR ((itemRow o).dropLast, 0) = (0, [], 32) := by
      show takeN (itemRow o).dropLast = _
      rw [itemRow, h]
      exact takeN_cut (by omega)
    rw [nextI, h, e]; rfl
theorem cut_more (o : ItemV) (r : List UInt8) (h : 0 < r.length) : (itemRow o ++ r).dropLast = itemRow o ++ r.dropLast := List.dropLast_append_of_ne_nil (by intro h'; rw [h'] at h; simp at h)

theorem below_drew_self' (w : World) : Below w.heap.size w w.drew := ⟨rfl, rfl, rfl, Nat.le_refl _, fun _ _ => rfl⟩
theorem Upd.of_drawn1 {F : List Nat} {w w' : World} (h : Upd F w.drew w') : Upd F w w' := ⟨h.os, h.tape, h.output, h.size, h.block⟩
theorem ret_bool {a b : Bool} (h : a = b) : Ending.returned (.bool a) = .returned (.bool b) := by rw [h]

set_option maxRecDepth 100000 in
set_option maxHeartbeats 3200000 in
theorem gets_any (w : World) (b g : Nat) (st : List UInt8 × Int) (o : ItemV) (h : Rdr w b g st) (hl : st.1.length ≤ 70368744177664) (ho : o.ok) :
    Calls Tryd.prog 20 #[.pointer (some ⟨b, 0, none⟩), .agg #[.bool o.text, .int .i64 o.n, .int .i64 o.more, .string o.s]] w fun e w' => e = .returned (.bool (getI st o)) ∧ Rdr w' b g (nextI st o) ∧ Upd [b] w w' := by
  obtain ⟨⟨n1, n2⟩, ⟨m1, m2⟩, hs⟩ := ho
  have hb0 : Below w.heap.size w (w.alloc (.cells #[.bool o.text, .int .i64 o.n, .int .i64 o.more, .string o.s] 39)) := (Below.refl _ _).alloc (Nat.le_refl _) _
  have HB := Lib.hid hb0
  have HR := Lib.hid (h.below hb0)
  have hbl := h.lt.1
  clear hb0 h
  cases ht : o.text with
  | true =>
    have e1 : getI st o = decide ((textR st (mostI o)).1 = (textV o.s).data.toList) := if_pos ht
    have e2 : nextI st o = (textR st (mostI o)).2 := if_pos ht
    rw [e1, e2]
    rw [ht] at HB HR
    have hts := textV_size o.s
    have hpk := pickV_bd o.more 70000 (by decide)
    have hsum : ((textV o.s).size : Int) + pickV o.more 70000 = mostI o := rfl
    have hms : 0 ≤ mostI o ∧ mostI o ≤ 200000 := by unfold mostI; omega
    have hwr : IntKind.i64.wrap (mostI o) = mostI o := IntWalk.i64_in _ (by omega)
    have HW := Lib.hid hwr
    have HSUM := Lib.hid hsum
    clear e1 e2 ht hsum hwr
    go_enter Tryd.func20, Tryd.ntmps20
    go_wp2
    generalize hW1 : w.alloc (.cells #[.bool true, .int .i64 o.n, .int .i64 o.more, .string o.s] 39) = W1 at HB HR ⊢
    have a3 : W1.cell? ⟨w.heap.size, 3, none⟩ = some (.string o.s) := by rw [← hW1]; simp
    have a2 : W1.cell? ⟨w.heap.size, 2, none⟩ = some (.int .i64 o.more) := by rw [← hW1]; simp
    have HRD := Lib.hid (HR.out.below (below_drew_self' W1))
    have hszW : w.heap.size < W1.heap.size := by rw [← hW1]; simp
    have hwr := HW.out
    have hsum := HSUM.out
    clear hW1 HR
    go_region_held3 (fun w' => w'.cell? ⟨w.heap.size, 3, none⟩ = some (.string o.s) ∧ w'.cell? ⟨w.heap.size, 2, none⟩ = some (.int .i64 o.more)) (first | exact ⟨a3, a2⟩ | exact ⟨z3, z2⟩)
      (first
        | (go_at_call 15; (with_reducible refine (ltext_any _ _ hs).mono ?_); rintro e w' ⟨rfl, rfl⟩)
        | (go_at_call 10; refine (pick_any _ _ _ m1 m2 (by decide) (by decide)).mono ?_; rintro e w' ⟨rfl, rfl⟩)
        | (go_at_call 23; (with_reducible refine (rtext_any _ b g st (mostI o) HRD.out hl).mono ?_); rintro e w5 ⟨rfl, hR5, hu5⟩; have hk5 := hu5.block w.heap.size hszW (by simp; omega); have z3 := (World.cell?_of_block (a := ⟨w.heap.size, 3, none⟩) hk5).trans a3; have z2 := (World.cell?_of_block (a := ⟨w.heap.size, 2, none⟩) hk5).trans a2; unfold str))
    clear hwr hsum HW HSUM a3 a2 z2 hk5
    go_wp2_with fail
    refine (ltext_any _ _ hs).mono ?_
    rintro e w' ⟨rfl, rfl⟩
    obtain ⟨tl, htl⟩ : ∃ tl : List UInt8, textV o.s = ⟨tl.toArray⟩ := ⟨(textV o.s).data.toList, by simp⟩
    have HTL : Hid ((textV o.s).data.toList = tl) := Lib.hid (by rw [htl])
    rw [htl]
    go_wp2
    go_ret
    refine ⟨ret_bool ?_, hR5, (Upd.of_below HB.out).trans (hu5.of_drawn1) (fun x hx => Or.inl hx)⟩
    rw [HTL.out, Bool.eq_iff_iff]; simp
  | false =>
    have e1 : getI st o = decide (((numR st).1 : Int) = numV o.n) := by rw [getI, ht]; rfl
    have e2 : nextI st o = (numR st).2 := by rw [nextI, ht]; rfl
    rw [e1, e2]
    rw [ht] at HB HR
    clear e1 e2 ht
    go_enter Tryd.func20, Tryd.ntmps20
    go_wp2_with fail
    refine (rnum_any _ b g st HR.out hl).mono ?_
    rintro e w5 ⟨rfl, hR5, hu5⟩
    have hk5 := hu5.block w.heap.size (by simp) (by simp; omega)
    have z1 : w5.cell? ⟨w.heap.size, 1, none⟩ = some (.int .i64 o.n) := by
      rw [World.cell?_of_block (a := ⟨w.heap.size, 1, none⟩) hk5]; simp
    clear hk5
    go_wp2_with fail
    refine (number_any _ _ n1 n2).mono ?_
    rintro e w' ⟨rfl, rfl⟩
    go_wp2
    go_ret
    refine ⟨ret_bool ?_, hR5, (Upd.of_below HB.out).trans hu5 (fun x hx => Or.inl hx)⟩
    rw [Bool.eq_iff_iff]; simp
end Go.Proofs.YtcfnkphdmkepaaaDoor
