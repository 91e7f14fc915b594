/-
  DskMath, DskKit.
-/
import Derived.Test.YtlommddabccdeaaGreatDoorQBytes
import Derived.Test.YtlommddabccdeaaGreatDoorQBut
import Derived.Deep.WholeRow
import Derived.Deep.QuietTactic
import Derived.BigQuiet
import Derived.Outline
import Derived.Deep.RegionHeld3
import Derived.Deep.RegionLaw
import Derived.Deep.MidRow
import Derived.Laws.CopyRow
import Derived.Laws.AppendOwn
import Derived.Shelf.Slices.Delete
import Derived.Shelf.Slices.Clone
import Derived.Shelf.Slices.Turned
namespace Go.Proofs.YtlommddabccdeaaGreatDoor
open Go.RowKit

def copyL (src dst : List (List UInt8)) : List Nat → List (List UInt8)
  | [] => dst
  | n :: r => copyL src (dst.set n (src.getD n [])) r
theorem copyL_len : ∀ (ks : List Nat) (src dst : List (List UInt8)), (copyL src dst ks).length = dst.length
  | [], _, _ => rfl
  | n :: r, src, dst => by rw [copyL, copyL_len r, List.length_set]
theorem copyL_get : ∀ (ks : List Nat) (src dst : List (List UInt8)) (i : Nat), i < dst.length → (copyL src dst ks).getD i [] = if i ∈ ks then src.getD i [] else dst.getD i []
  | [], _, _, _, _ => by simp [copyL]
  | n :: r, src, dst, i, h => by
    rw [copyL, copyL_get r src _ i (by rw [List.length_set]; exact h)]
    by_cases h1 : i ∈ r
    · rw [if_pos h1, if_pos (List.mem_cons_of_mem _ h1)]
    · rw [if_neg h1]
      by_cases h2 : n = i
      · subst h2
        rw [if_pos List.mem_cons_self]
        simp [List.getD, List.getElem?_set_self h]
      · rw [if_neg (by rw [List.mem_cons]; rintro (e | e); · exact h2 e.symm
                       · exact h1 e)]
        simp [List.getD, List.getElem?_set_ne h2]
theorem copyL_snoc : ∀ (ks : List Nat) (src dst : List (List UInt8)) (n : Nat), copyL src dst (ks ++ [n]) = (copyL src dst ks).set n (src.getD n [])
  | [], _, _, _ => rfl
  | m :: r, src, dst, n => by rw [List.cons_append, copyL, copyL, copyL_snoc r]
theorem list_eq {a b : List (List UInt8)} (hl : a.length = b.length) (h : ∀ i, i < a.length → a.getD i [] = b.getD i []) : a = b := by
  apply List.ext_getElem hl
  intro i h1 h2
  have := h i h1
  simpa [List.getD, List.getElem?_eq_getElem h1, List.getElem?_eq_getElem h2] using this

structure DskV where
  ls : List (List UInt8)
  ws : List (List UInt8)
  ps : List Nat
  acts : Int
  armed : Nat
  dead : Bool
structure DskOk (d : DskV) : Prop where
  len : d.ls.length = d.ws.length
  lo : 8 ≤ d.ws.length
  hi : d.ws.length ≤ 4096
  l64 : ∀ b ∈ d.ls, b.length = 64
  w64 : ∀ b ∈ d.ws, b.length = 64
  nd : d.ps.Nodup
  lt : ∀ n ∈ d.ps, n < d.ws.length
  same : ∀ n, n ∉ d.ps → d.ls.getD n [] = d.ws.getD n []
  arm : d.armed ≤ 9223372036854775807
  ali : d.dead = true → d.armed = 0
def DskV.act (d : DskV) : DskV := { d with acts := IntKind.i64.wrap (d.acts + 1), armed := d.armed - 1, dead := d.armed == 1 }
def DskV.wrote (d : DskV) (n : Nat) (b : List UInt8) : DskV := ({ d with ws := d.ws.set n b, ps := d.ps.erase n ++ [n] } : DskV).act
def DskV.synced (d : DskV) : DskV := if d.armed = 1 then d.act else { d.act with ls := d.ws, ps := [] }
def DskV.crashed (d : DskV) (keep : List Nat) : DskV := { d with ls := copyL d.ws d.ls keep, ws := copyL d.ws d.ls keep, ps := [], armed := 0, dead := false }
def newL (n : Nat) : List (List UInt8) := List.replicate n (List.replicate 64 0)
def DskV.new (n : Nat) : DskV := ⟨newL n, newL n, [], 0, 0, false⟩
def DskV.says (d : DskV) : Int := if d.armed = 1 then 2 else 0

theorem DskOk.new {n : Nat} (h1 : 8 ≤ n) (h2 : n ≤ 4096) : DskOk (DskV.new n) where
  len := rfl
  lo := by simp [DskV.new, newL]; exact h1
  hi := by simp [DskV.new, newL]; exact h2
  l64 := fun b hb => by simp [DskV.new, newL] at hb; rw [hb.2]; simp
  w64 := fun b hb => by simp [DskV.new, newL] at hb; rw [hb.2]; simp
  nd := List.nodup_nil
  lt := fun n hn => by cases hn
  same := fun _ _ => rfl
  arm := by simp [DskV.new]
  ali := fun h => by cases h
theorem DskOk.act {d : DskV} (h : DskOk d) : DskOk d.act where
  len := h.len
  lo := h.lo
  hi := h.hi
  l64 := h.l64
  w64 := h.w64
  nd := h.nd
  lt := h.lt
  same := h.same
  arm := by have := h.arm; show d.armed - 1 ≤ _; omega
  ali := fun e => by
    have : d.armed = 1 := by simpa [DskV.act] using e
    show d.armed - 1 = 0
    omega
theorem DskOk.wrote0 {d : DskV} (h : DskOk d) {n : Nat} {b : List UInt8} (hn : n < d.ws.length) (hb : b.length = 64) : DskOk { d with ws := d.ws.set n b, ps := d.ps.erase n ++ [n] } where
  len := by simp [h.len]
  lo := by simp; exact h.lo
  hi := by simp; exact h.hi
  l64 := h.l64
  w64 := fun x hx => by
    rcases List.mem_or_eq_of_mem_set hx with h1 | h1
    · exact h.w64 x h1
    · rw [h1]; exact hb
  nd := by
    rw [List.nodup_append]
    refine ⟨h.nd.erase n, by simp, fun a ha c hc => ?_⟩
    rw [List.mem_singleton.1 hc]
    rintro rfl
    exact (h.nd.not_mem_erase) ha
  lt := fun x hx => by
    simp only [List.length_set]
    rcases List.mem_append.1 hx with h1 | h1
    · exact h.lt x (List.mem_of_mem_erase h1)
    · rw [List.mem_singleton.1 h1]; exact hn
  same := fun x hx => by
    rw [List.mem_append, List.mem_singleton] at hx
    have h1 : x ≠ n := fun e => hx (Or.inr e)
    have h2 : x ∉ d.ps := fun e => hx (Or.inl ((List.mem_erase_of_ne h1).2 e))
    rw [h.same x h2]
    simp [List.getD, List.getElem?_set_ne (fun e => h1 e.symm)]
  arm := h.arm
  ali := h.ali
theorem DskOk.wrote {d : DskV} (h : DskOk d) {n : Nat} {b : List UInt8} (hn : n < d.ws.length) (hb : b.length = 64) : DskOk (d.wrote n b) := (h.wrote0 hn hb).act
theorem sync_copy {d : DskV} (h : DskOk d) : copyL d.ws d.ls d.ps = d.ws := by
  apply list_eq (by rw [copyL_len, h.len])
  intro i hi
  rw [copyL_len] at hi
  rw [copyL_get _ _ _ _ hi]
  by_cases e : i ∈ d.ps
  · rw [if_pos e]
  · rw [if_neg e, h.same i e]
theorem DskOk.synced {d : DskV} (h : DskOk d) : DskOk d.synced := by
  unfold DskV.synced
  split
  · exact h.act
  · have := h.act
    exact { len := rfl, lo := h.lo, hi := h.hi, l64 := h.w64, w64 := h.w64, nd := List.nodup_nil, lt := (fun n hn => by cases hn), same := fun _ _ => rfl, arm := this.arm, ali := this.ali }
theorem erase_all_mem : ∀ (ks : List Nat) (ps : List Nat), ps.Nodup → ∀ i, i ∈ ks.foldl List.erase ps ↔ i ∈ ps ∧ i ∉ ks
  | [], ps, _, i => by simp
  | n :: r, ps, h, i => by
    rw [List.foldl_cons, erase_all_mem r _ (h.erase n) i]
    by_cases e : i = n
    · subst e
      simp only [List.mem_cons, true_or, not_true_eq_false, and_false, iff_false]
      rintro ⟨h1, _⟩
      exact h.not_mem_erase h1
    · rw [List.mem_erase_of_ne e]
      simp [e]
theorem crash_copy {d : DskV} (h : DskOk d) (ks : List Nat) : copyL (copyL d.ws d.ls ks) d.ws (ks.foldl List.erase d.ps) = copyL d.ws d.ls ks := by
  apply list_eq (by rw [copyL_len, copyL_len, h.len])
  intro i hi
  rw [copyL_len] at hi
  rw [copyL_get _ _ _ _ hi]
  have hi2 : i < d.ls.length := by rw [h.len]; exact hi
  by_cases e : i ∈ ks.foldl List.erase d.ps
  · rw [if_pos e]
  · rw [if_neg e, copyL_get _ _ _ _ hi2]
    by_cases e2 : i ∈ ks
    · rw [if_pos e2]
    · rw [if_neg e2]
      have : i ∉ d.ps := fun h3 => e ((erase_all_mem ks d.ps h.nd i).2 ⟨h3, e2⟩)
      exact (h.same i this).symm
theorem copyL_all {src dst : List (List UInt8)} (hl : src.length = dst.length) (h1 : ∀ b ∈ src, b.length = 64) (h2 : ∀ b ∈ dst, b.length = 64) (ks : List Nat) : ∀ b ∈ copyL src dst ks, b.length = 64 := by
  intro b hb
  obtain ⟨i, hi, rfl⟩ := List.getElem_of_mem hb
  have hi2 := hi
  rw [copyL_len] at hi2
  have := copyL_get ks src dst i hi2
  have e : (copyL src dst ks).getD i [] = (copyL src dst ks)[i] := by simp [List.getD, List.getElem?_eq_getElem hi]
  rw [e] at this
  rw [this]
  split
  · have h3 : i < src.length := by omega
    have : src.getD i [] = src[i] := by simp [List.getD, List.getElem?_eq_getElem h3]
    rw [this]; exact h1 _ (List.getElem_mem _)
  · have : dst.getD i [] = dst[i] := by simp [List.getD, List.getElem?_eq_getElem hi2]
    rw [this]; exact h2 _ (List.getElem_mem _)
theorem DskOk.crashed {d : DskV} (h : DskOk d) (ks : List Nat) : DskOk (d.crashed ks) where
  len := rfl
  lo := by simp only [DskV.crashed]; rw [copyL_len, h.len]; exact h.lo
  hi := by simp only [DskV.crashed]; rw [copyL_len, h.len]; exact h.hi
  l64 := copyL_all h.len.symm h.w64 h.l64 ks
  w64 := copyL_all h.len.symm h.w64 h.l64 ks
  nd := List.nodup_nil
  lt := fun n hn => by cases hn
  same := fun _ _ => rfl
  arm := by simp [DskV.crashed]
  ali := fun h => by cases h
def Mixed (d : DskV) (img : List (List UInt8)) : Prop := img.length = d.ws.length ∧ ∀ i, i < d.ws.length → img.getD i [] = d.ws.getD i [] ∨ (i ∈ d.ps ∧ img.getD i [] = d.ls.getD i [])
theorem mixed_crashed {d : DskV} (h : DskOk d) (ks : List Nat) : Mixed d (d.crashed ks).ws := by
  refine ⟨by simp only [DskV.crashed]; rw [copyL_len, h.len], fun i hi => ?_⟩
  simp only [DskV.crashed]
  rw [copyL_get _ _ _ _ (by rw [h.len]; exact hi)]
  by_cases e : i ∈ ks
  · rw [if_pos e]; exact Or.inl rfl
  · rw [if_neg e]
    by_cases e2 : i ∈ d.ps
    · exact Or.inr ⟨e2, rfl⟩
    · exact Or.inl (h.same i e2)
end Go.Proofs.YtlommddabccdeaaGreatDoor

namespace Go.Proofs.YtlommddabccdeaaGreatDoor
open Go.ChangeShapes Go.WideShapes Go.ChangeAt Go.RowKit

theorem infoBk : (Tryz.prog.info? 83).map (fun i => (i.zero, i.size)) = some (some (.agg (Array.replicate 64 (.int .u8 0))), 64) := by kernel_rfl
theorem sizeBk : (Tryz.prog.info? 83).map (·.size) = some 64 := (zero_of_info infoBk).2
theorem zeroBk (w : World) : (zeroValue 83).run Tryz.prog w = .ok (.agg (Array.replicate 64 (.int .u8 0))) w := (zero_of_info infoBk).1 w
def bkV (b : List UInt8) : Value := .agg (b.map b8).toArray
theorem one8 (b : List UInt8) : ∀ u ∈ b.map b8, u.oneCell' = true := fun u hu => by
 obtain ⟨c, _, rfl⟩ := List.mem_map.1 hu
 rfl
theorem run_loadVar_at (w : World) (g o : Nat) (ty : TypeId) (cs : List Value) (n : Nat) (e : TypeId) (hc : ∀ j v, cs[j]? = some v → w.cell? ⟨g, o + j, none⟩ = some v) (hu : Tryz.prog.underlying ty = some (.array n e)) (hi : (Tryz.prog.info? ty).map (·.size) = some cs.length) :
  (loadVar ty ⟨g, o, none⟩).run Tryz.prog w = .ok (.agg cs.toArray) w := by
 have hl := run_loadCells_list (P := Tryz.prog) w ⟨g, o, none⟩ cs (fun j v hv => by rw [Addr.add_lit]; exact hc j v hv)
 cases hq : Tryz.prog.info? ty with
 | none => simp [hq] at hi
 | some i =>
  have hs : i.size = cs.length := by simpa [hq] using hi
  have hagg : (isAgg ty).run Tryz.prog w = .ok true w := by
   unfold isAgg
   rw [Sem.run_bind, run_underlying hu w]
   rfl
  simp [loadVar, Sem.run_bind, hagg, sizeOf, typeInfo, hq, hs, hl]
def BlkRow (w : World) (g : Nat) (bs : List (List UInt8)) : Prop :=
 ∃ cur : Array Value, w.heap[g]? = some (.cells cur 83 (0, 0)) ∧ 64 * bs.length ≤ cur.size ∧ ∀ n (h : n < bs.length) j u, (bs[n].map b8)[j]? = some u → cur[n * 64 + j]? = some u
theorem BlkRow.kept {w w' : World} {g : Nat} {bs : List (List UInt8)} (h : BlkRow w g bs) (hk : w'.heap[g]? = w.heap[g]?) : BlkRow w' g bs := by
 obtain ⟨cur, h1, h2, h3⟩ := h
 exact ⟨cur, by rw [hk]; exact h1, h2, h3⟩
theorem BlkRow.lt {w : World} {g : Nat} {bs : List (List UInt8)} (h : BlkRow w g bs) : g < w.heap.size := by
 obtain ⟨cur, h1, _⟩ := h
 exact (Array.getElem?_eq_some_iff.1 h1).1
theorem BlkRow.load {w : World} {g : Nat} {bs : List (List UInt8)} (h : BlkRow w g bs) {n : Nat} {b : List UInt8} (hb : bs[n]? = some b) (h64 : b.length = 64) : (loadVar 83 ⟨g, n * 64, none⟩).run Tryz.prog w = .ok (bkV b) w := by
 obtain ⟨cur, h1, h2, h3⟩ := h
 obtain ⟨hn, rfl⟩ := List.getElem?_eq_some_iff.1 hb
 refine run_loadVar_at w g (n * 64) _ (bs[n].map b8) 64 5 (fun j v hv => ?_) Tryz.underlying83 (by rw [sizeBk, List.length_map, h64])
 rw [World.cell?, h1]
 simpa using h3 n hn j v hv
theorem BlkRow.range {w : World} {g : Nat} {bs : List (List UInt8)} (h : BlkRow w g bs) {n : Nat} {b : List UInt8} (hb : bs[n]? = some b) : w.rangeAt g (n * 64) (b.map b8) := fun j v hv => by
 obtain ⟨cur, h1, h2, h3⟩ := h
 obtain ⟨hn, rfl⟩ := List.getElem?_eq_some_iff.1 hb
 rw [World.cell?, h1]
 simpa using h3 n hn j v hv
theorem BlkRow.there {w : World} {g : Nat} {bs : List (List UInt8)} (h : BlkRow w g bs) {n : Nat} (hn : n < bs.length) : w.there g (n * 64) 64 := fun j hj => by
 obtain ⟨cur, h1, h2, h3⟩ := h
 refine ⟨?_, by simp [World.frozen?, h1]⟩
 have hs : n * 64 + j < cur.size := by omega
 simp [World.cell?, h1, hs]
theorem BlkRow.store {w : World} {g : Nat} {bs : List (List UInt8)} (h : BlkRow w g bs) {n : Nat} (hn : n < bs.length) (h64 : ∀ b ∈ bs, b.length = 64) {b : List UInt8} (hb : b.length = 64) :
  BlkRow (w.setCells g (n * 64) (b.map b8)) g (bs.set n b) ∧ But g w (w.setCells g (n * 64) (b.map b8)) ∧ (w.setCells g (n * 64) (b.map b8)).heap.size = w.heap.size := by
 have hth := h.there hn
 obtain ⟨cur, h1, h2, h3⟩ := h
 have hl : (b.map b8).length = 64 := by rw [List.length_map, hb]
 have hr1 := run_storeCells_at Tryz.prog g (n * 64) _ (b.map b8) 0 cur w h1 (by rw [hl]; omega) (one8 b)
 have hr2 := run_storeCells_cells (P := Tryz.prog) g (n * 64) (b.map b8) 0 w (fun j hj => (hth j (by omega)).1) (fun j hj => (hth j (by omega)).2) (one8 b)
 rw [hr1] at hr2
 injection hr2 with _ hr2
 simp only [Nat.add_zero] at hr2
 rw [← hr2]
 refine ⟨⟨(cur.toList.take (n * 64) ++ b.map b8 ++ cur.toList.drop (n * 64 + (b.map b8).length)).toArray, ?_, ?_, ?_⟩, ⟨rfl, rfl, rfl, ?_, ?_⟩, ?_⟩
 ·simp [World.setRow, Array.getElem?_modify, h1]
 ·simp; omega
 ·intro m hm j u hu
  have hm2 : m < bs.length := by simpa using hm
  have hj : j < 64 := by
   have := (List.getElem?_eq_some_iff.1 hu).1
   rw [List.length_map] at this
   by_cases e : n = m
   ·subst e; rw [List.getElem_set_self] at this; omega
   ·rw [List.getElem_set_ne e] at this; rw [h64 _ (List.getElem_mem hm2)] at this; exact this
  rw [List.getElem?_toArray, List.append_assoc]
  have hsz : (cur.toList.take (n * 64)).length = n * 64 := by simp; omega
  by_cases e : n = m
  ·subst e
   rw [List.getElem?_append_right (by rw [hsz]; omega), hsz, Nat.add_sub_cancel_left, List.getElem?_append_left (by rw [hl]; exact hj)]
   rw [List.getElem_set_self] at hu
   exact hu
  ·rw [List.getElem_set_ne e] at hu
   have h4 := h3 m hm2 j u hu
   rcases Nat.lt_or_gt_of_ne e with e2 | e2
   ·rw [List.getElem?_append_right (by rw [hsz]; omega), hsz, List.getElem?_append_right (by rw [hl]; omega), hl, List.getElem?_drop]
    rw [show n * 64 + 64 + (m * 64 + j - n * 64 - 64) = m * 64 + j by omega]
    simpa using h4
   ·rw [List.getElem?_append_left (by rw [hsz]; omega), List.getElem?_take_of_lt (by omega)]
    simpa using h4
 ·simp [World.setRow]
 ·intro k hk hne
  have hne2 : ¬ g = k := fun e => hne e.symm
  simp [World.setRow, Array.getElem?_modify, hne2]
 ·simp [World.setRow]

def nI (k : Nat) : Value := .int .i64 (k : Int)
def HeldN (w : World) (v : Value) (ps : List Nat) : Prop := w.ownsRow 0 3 1 v ps.length (ps.map nI)
theorem HeldN.nil_ (w : World) : HeldN w (.slice none 0 0) [] := World.ownsRow_nil _ _ _ _
theorem HeldN.kept {w w' : World} {v : Value} {l : List Nat} (h : HeldN w v l) (hk : ∀ g, v.ownBlock = some g → w'.heap[g]? = w.heap[g]?) : HeldN w' v l := by
 obtain ⟨h1, h2⟩ := h
 refine ⟨h1, ?_⟩
 rcases h2 with h3 | ⟨g, cap, cur, rfl, h4, h5, h6⟩
 ·exact .inl h3
 ·exact .inr ⟨g, cap, cur, rfl, h4, by rw [hk g rfl]; exact h5, h6⟩
theorem HeldN.lt {w : World} {v : Value} {l : List Nat} (h : HeldN w v l) {g : Nat} (hg : v.ownBlock = some g) : g < w.heap.size := (World.ownsRow.lt h g hg).2
theorem HeldN.shape {w : World} {v : Value} {l : List Nat} (h : HeldN w v l) : (v = .slice none 0 0 ∧ l = []) ∨ ∃ g cap cur, v = .slice (some ⟨g, 0, none⟩) l.length cap ∧ w.heap[g]? = some (.cells cur 3 (0, 0)) ∧ l.length ≤ cap ∧ cap ≤ maxLen ∧ cur.size = cap ∧ ∀ k (hk : k < l.length), cur[k]? = some (nI l[k]) := by
 rcases h.2 with ⟨rfl, hn⟩ | ⟨g, cap, cur, rfl, _, h5, h6, h7, h8, h9⟩
 ·exact .inl ⟨rfl, List.eq_nil_of_length_eq_zero hn⟩
 ·refine .inr ⟨g, cap, cur, rfl, h5, h6, h7, by simpa using h8, fun k hk => ?_⟩
  have : (cur.toList.take (l.length * 1))[k]? = (l.map nI)[k]? := by rw [h9]
  rw [List.getElem?_take_of_lt (by omega)] at this
  simpa [List.getElem?_eq_getElem hk] using this
theorem infoN : (Tryz.prog.info? 3).map (fun i => (i.zero, i.size, i.bytes)) = some (some (.int .i64 0), 1, 8) := by kernel_rfl
theorem HeldN.cell {w : World} {g cap : Nat} {l : List Nat} {n : Nat} (h : HeldN w (.slice (some ⟨g, 0, none⟩) n cap) l) (p : Nat) (hp : p < l.length) : w.cell? ⟨g, p, none⟩ = some (nI l[p]) := by
 rcases h.shape with ⟨e, _⟩ | ⟨g', cap', cur, e, h5, _, _, _, h9⟩
 ·cases e
 ·injection e with e1 e2 e3
  injection e1 with e1
  injection e1 with e1 _ _
  subst e1
  rw [World.cell?, h5]
  exact h9 p hp
theorem run_appendN_loc {w : World} {v : Value} {l : List Nat} (hown : HeldN w v l) (ty : TypeId) (a : Addr) (c k : Nat) (hnews : w.cell? a = some (nI k)) (hb : l.length ≤ 1000000) :
  ∃ v' w', (Builtin.append_ #[23, 23] ty #[v, .slice (some a) 1 c]).run Tryz.prog w = .ok v' w' ∧ HeldN w' v' (l ++ [k]) ∧ w.grownBy w' v.ownBlock ∧ ∀ g, v'.ownBlock = some g → v.ownBlock = some g ∨ w.heap.size ≤ g := by
 obtain ⟨i0, hi, hz0, hz1, hz2⟩ := info_parts infoN
 have hn : ∀ j u, [nI k][j]? = some u → w.cell? (a.add j) = some u := fun j u hj => by
  have : j = 0 := by have := (List.getElem?_eq_some_iff.1 hj).1; simp at this; exact this
  subst this
  have e : a.add 0 = a := by unfold Addr.add; simp
  rw [e, hnews]
  simpa using hj
 have h1 : ∀ u ∈ [nI k], u.oneCell' = true := by
  intro u hu
  rw [List.mem_singleton.1 hu]; rfl
 obtain ⟨v', w', hr, ho, hg, _⟩ := run_append_own (P := Tryz.prog) w 0 23 ty 3 i0 (.int .i64 0) 1 8 Tryz.underlying23 hi hz0 hz1 hz2 rfl (by decide) v l.length (l.map nI) hown a 1 c [nI k] (by simp) hn h1 (by unfold maxLen; omega) (by omega) (Nat.zero_le _)
 refine ⟨v', w', hr, ⟨by simp, by simpa using ho.2⟩, hg, ?_⟩
 intro g hg'
 have hown2 := hown
 rcases hown2.2 with ⟨rfl, hn0⟩ | ⟨g0, cap, cur, rfl, _, hcur, hnc, hcm, hcs, htake⟩
 ·obtain ⟨v2, w2, hr2, ho2, _, _⟩ := run_append_own (P := Tryz.prog) w w.heap.size 23 ty 3 i0 (.int .i64 0) 1 8 Tryz.underlying23 hi hz0 hz1 hz2 rfl (by decide) (.slice none 0 0) l.length (l.map nI) ⟨hown.1, .inl ⟨rfl, hn0⟩⟩ a 1 c [nI k] (by simp) hn h1 (by unfold maxLen; omega) (by omega) (Nat.le_refl _)
  rw [hr] at hr2
  injection hr2 with e1 e2
  subst e1 e2
  exact Or.inr (ho2.lt g hg').1
 ·by_cases hroom : l.length + 1 ≤ cap
  ·have hr2 := run_append_room (P := Tryz.prog) w 23 ty 3 i0 Tryz.underlying23 hi g0 l.length cap cur hcur a 1 c [nI k] (by rw [hz1]; simp) hn h1 hroom (by rw [hz1, hcs]; simp; omega)
   rw [hr] at hr2
   injection hr2 with e1 e2
   subst e1
   exact Or.inl hg'
  ·have holds : ∀ j u, (l.map nI)[j]? = some u → w.cell? ((⟨g0, 0, none⟩ : Addr).add j) = some u := World.ownsRow.cells hown (g := g0) rfl
   have hr2 := run_append_grow (P := Tryz.prog) w 23 ty 3 i0 (.int .i64 0) Tryz.underlying23 hi hz0 ⟨g0, 0, none⟩ l.length cap (l.map nI) (by rw [hz1]; simp) holds a 1 c [nI k] (by rw [hz1]; simp) hn (by omega) (by omega) (growslice_fits (by omega) (by rw [hz2]; omega))
   rw [hr] at hr2
   injection hr2 with e1 e2
   subst e1
   simp [Value.ownBlock] at hg'
   exact Or.inr (by omega)

structure DskP where
 p : Nat
 gl : Nat
 cl : Nat
 gw : Nat
 cw : Nat
 vp : Value
def DskP.F (D : DskP) : List Nat := D.p :: D.gl :: D.gw :: D.vp.ownBlock.toList
structure DskAt (w : World) (D : DskP) (d : DskV) : Prop where
 obj : w.heap[D.p]? = some (.cells #[.slice (some ⟨D.gl, 0, none⟩) d.ls.length D.cl, .slice (some ⟨D.gw, 0, none⟩) d.ws.length D.cw, D.vp, .int .i64 d.acts, .int .i64 (d.armed : Int), .bool d.dead] 71 (0, 0))
 rl : BlkRow w D.gl d.ls
 rw : BlkRow w D.gw d.ws
 rp : HeldN w D.vp d.ps
 ne : D.gl ≠ D.gw
theorem DskAt.kept {w w' : World} {D : DskP} {d : DskV} (h : DskAt w D d) (hk : ∀ k ∈ D.F, w'.heap[k]? = w.heap[k]?) : DskAt w' D d where
 obj := by rw [hk D.p (by simp [DskP.F])]; exact h.obj
 rl := h.rl.kept (hk _ (by simp [DskP.F]))
 rw := h.rw.kept (hk _ (by simp [DskP.F]))
 rp := h.rp.kept (fun g hg => hk g (by simp [DskP.F, hg]))
 ne := h.ne
theorem DskAt.lt {w : World} {D : DskP} {d : DskV} (h : DskAt w D d) : ∀ k ∈ D.F, k < w.heap.size := by
 intro k hk
 simp [DskP.F] at hk
 rcases hk with rfl | rfl | rfl | hk
 ·exact (Array.getElem?_eq_some_iff.1 h.obj).1
 ·exact h.rl.lt
 ·exact h.rw.lt
 ·exact h.rp.lt hk
theorem DskAt.below {w w' : World} {D : DskP} {d : DskV} (h : DskAt w D d) (hb : Below w.heap.size w w') : DskAt w' D d := h.kept fun k hk => hb.block k (h.lt k hk)
theorem apart_of {w : World} {a b : Nat} {c1 c2 : Array Value} {t1 t2 : TypeId} {f1 f2 : Nat × Nat} (h1 : w.heap[a]? = some (.cells c1 t1 f1)) (h2 : w.heap[b]? = some (.cells c2 t2 f2)) (ht : t1 ≠ t2) : a ≠ b := by
 rintro rfl
 rw [h1] at h2
 injection h2 with h2
 injection h2 with _ h2 _
 exact ht h2
end Go.Proofs.YtlommddabccdeaaGreatDoor
