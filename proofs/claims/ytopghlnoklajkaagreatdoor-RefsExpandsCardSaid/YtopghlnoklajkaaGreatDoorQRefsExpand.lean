/-
  RefsExpand.
-/
import Derived.Test.YtopghlnoklajkaaGreatDoorQRefsOpen
import Derived.Test.YtopghlnoklajkaaGreatDoorQSetPut
import Derived.Deep.RegionHeld3
namespace Go.Proofs.YtopghlnoklajkaaGreatDoor
open Go.ChangeShapes Go.WideShapes Go.ChangeAt Go.RowKit

theorem scanP_big (N : Nat) : ∀ (f : Nat) (r b : List UInt8) (l out : List PcB), scanP f r b l = some out → (∀ p ∈ l, p.1.length ≤ N) → b.length + r.length ≤ N → ∀ p ∈ out, p.1.length ≤ N := by
 intro f
 induction f with
 | zero =>
  intro r b l out h hl hb p hp
  rw [← Option.some.inj h] at hp
  rcases List.mem_append.1 hp with hp | hp
  ·exact hl p hp
  ·rw [List.mem_singleton.1 hp]; simp only; omega
 | succ f ih =>
  intro r b l out h hl hb p hp
  cases r with
  | nil =>
   rw [← Option.some.inj h] at hp
   rcases List.mem_append.1 hp with hp | hp
   ·exact hl p hp
   ·rw [List.mem_singleton.1 hp]; simp only; omega
  | cons c r =>
   unfold scanP at h
   rw [List.length_cons] at hb
   split at h
   ·cases r with
    | nil => cases h
    | cons d r' =>
     rw [List.length_cons] at hb
     simp only at h
     split at h
     ·exact ih _ _ _ _ h hl (by rw [List.length_append, List.length_singleton]; omega) p hp
     ·split at h
      ·split at h
       ·have h2 : (upTo 125 r').length ≤ r'.length := by
         rename_i hx
         have hw := congrArg List.length (whole_is 125 r' hx.1)
         rw [List.length_append, List.length_cons] at hw
         omega
        have h1 := after_len 125 r'
        refine ih _ _ _ _ h (fun q hq => ?_) (by simp only [List.length_nil]; omega) p hp
        rcases List.mem_append.1 hq with hq | hq
        ·exact hl q hq
        ·rcases List.mem_cons.1 hq with rfl | hq
         ·simp only; omega
         ·rw [List.mem_singleton.1 hq]; simp only; omega
       ·cases h
      ·cases h
   ·exact ih _ _ _ _ h hl (by rw [List.length_append, List.length_singleton]; omega) p hp
theorem Px_big (ls : List SetM) (i : Nat) : (∀ p ∈ Px ls i, p.1.length ≤ 200) ∧ (Px ls i).length ≤ 201 := by
 have ht := Tx_len ls i
 unfold Px
 cases h : piecesB (Tx ls i) with
 | none => exact ⟨fun p hp => (by cases hp), by simp⟩
 | some l => exact ⟨fun p hp => scanP_big 200 _ _ _ _ _ h (fun q hq => by cases hq) (by simpa using ht) p hp, by have := pieces_len h; simp only [Option.getD_some]; omega⟩
def SxRes (B : Nat) (w : World) (lv : Value) (ms : List SetM) (e : Ending) (w' : World) : Prop :=
 match wrongE ms with
 | some (E, k) => e = .returned (.tuple #[.int .i64 E, .string (nameAt ms k)]) ∧ Below w.heap.size w w'
 | none => e = .returned (.tuple #[.int .i64 0, .string ⟨#[]⟩]) ∧ w.grownBy w' lv.ownBlock ∧ ∃ ns, SetsAt B w' lv ns ∧ ns.length = ms.length ∧ ∀ j (h1 : j < ns.length) (h2 : j < ms.length), ns[j].x = expS ms j ms[j].x
theorem x_same {ls ms : List SetM} (h : ls.map (·.x) = ms.map (·.x)) {j : Nat} (h1 : j < ls.length) (h2 : j < ms.length) : ls[j].x = ms[j].x := by
 have := same_at h j
 rw [List.getElem?_eq_getElem h1, List.getElem?_eq_getElem h2] at this
 exact Option.some.inj this
theorem SxRes.same {B : Nat} {w w' : World} {lv : Value} {ls ms : List SetM} {e : Ending} (hs : ls.map (·.x) = ms.map (·.x)) (h : SxRes B w lv ls e w') : SxRes B w lv ms e w' := by
 unfold SxRes at h ⊢
 rw [wrong_same hs] at h
 cases hw : wrongE ms with
 | some p => rw [hw] at h; simp only at h ⊢; rw [nameAt_same hs] at h; exact h
 | none =>
  rw [hw] at h
  obtain ⟨h1, h2, ns, h3, h4, h5⟩ := h
  have hl := len_same hs
  refine ⟨h1, h2, ns, h3, by rw [h4, hl], fun j a b => ?_⟩
  rw [h5 j a (by omega), x_same hs (by omega) b]
  unfold expS
  rw [Ex_same hs]
theorem MsOk.same {ls ms : List SetM} (h : MsOk ms) (hs : ls.map (·.x) = ms.map (·.x)) : MsOk ls := by
 have hn := names_same hs
 refine ⟨by rw [hn]; exact h.dis, by rw [hn]; exact h.small, by rw [hn]; exact h.some_, fun m hm => ?_, by rw [len_same hs]; exact h.few⟩
 obtain ⟨i, hi, rfl⟩ := List.getElem_of_mem hm
 have hi2 : i < ms.length := by rw [← len_same hs]; exact hi
 rw [x_same hs hi hi2]
 exact h.right _ (List.getElem_mem hi2)
theorem LayOk.same {ks : List KeyV} {ls ms : List SetM} (h : LayOk ks ms) (hs : ls.map (·.x) = ms.map (·.x)) : LayOk ks ls := by
 have hl := len_same hs
 refine ⟨by rw [hl]; exact h.len, fun i h1 h2 => by rw [x_same hs h1 (by omega)]; exact h.names i (by omega) h2, fun i h1 h2 => by rw [x_same hs h1 (by omega)]; exact h.may i (by omega) h2, fun m hm => ?_⟩
 obtain ⟨i, hi, rfl⟩ := List.getElem_of_mem hm
 have hi2 : i < ms.length := by rw [← hl]; exact hi
 rw [x_same hs hi hi2]
 exact h.from_ _ (List.getElem_mem hi2)
theorem BoolAt.far {W W' : World} {g n : Nat} {V : Nat → Bool} (h : BoolAt W g n V) (hb : W'.heap[g]? = W.heap[g]?) : BoolAt W' g n V := fun j hj => ⟨(cell_blkT hb j).trans (h j hj).1, by have := (h j hj).2; unfold World.frozen? at this ⊢; rw [hb]; exact this⟩
theorem IntAt.far {W W' : World} {g n : Nat} {V : Nat → Int} (h : IntAt W g n V) (hb : W'.heap[g]? = W.heap[g]?) : IntAt W' g n V := fun j hj => ⟨(cell_blkT hb j).trans (h j hj).1, by have := (h j hj).2; unfold World.frozen? at this ⊢; rw [hb]; exact this⟩
theorem TxtAt.far {W W' : World} {g n : Nat} {V : Nat → ByteArray} (h : TxtAt W g n V) (hb : W'.heap[g]? = W.heap[g]?) : TxtAt W' g n V := fun j hj => ⟨(cell_blkT hb j).trans (h j hj).1, by have := (h j hj).2; unfold World.frozen? at this ⊢; rw [hb]; exact this⟩
theorem Ex_other {ls : List SetM} (hF : fName ls = none) (hL : fLoop ls = none) {i : Nat} (hi : i < ls.length) (hr : rightV ls[i].x.val = true) (h5 : ls[i].x.val.kind ≠ 5) : (∃ s, Px ls i = [(s, false)]) ∧ (Ex ls i).length ≤ 200 := by
 have hT : Tx ls i = printV ls[i].x.val := by rw [Tx_at hi]; unfold printR; rw [hr]; rfl
 have hP : Px ls i = [(Tx ls i, false)] := by unfold Px; rw [hT, pieces_noD (print_noD hr h5)]; rfl
 refine ⟨⟨_, hP⟩, ?_⟩
 have hac : ∀ i, i < ls.length → ¬ Lead (scP (Px ls) (plO (namesM ls))) i i := fun j hj => by
  have := firstB_no hL j hj
  simpa using this
 have he : Ex ls i = (Px ls i).flatMap (pieceX (plO (namesM ls)) (expB (Px ls) (plO (namesM ls)) ls.length)) := expB_is (inside hF) hac hi
 rw [he, hP]
 have := Tx_len ls i
 simpa [pieceX] using this
theorem fLoop_at {ls : List SetM} {k : Nat} (h : ∀ j, j < k → ¬ Lead (scP (Px ls) (plO (namesM ls))) j j) (hk : k < ls.length) (hl : Lead (scP (Px ls) (plO (namesM ls))) k k) : fLoop ls = some k := by
 unfold fLoop
 exact firstB_some (fun j hj => by simpa using h j hj) hk (by simpa using hl)
theorem fLoop_none {ls : List SetM} (h : ∀ j, j < ls.length → ¬ Lead (scP (Px ls) (plO (namesM ls))) j j) : fLoop ls = none := by
 unfold fLoop
 exact firstB_none fun j hj => by simpa using h j hj
theorem WkAt.new {w1 : World} {n : Nat} {lv : Value} (P : Nat → List PcB) (o : Obj) (ho : o = Obj.cells #[lv, .slice none 0 0, .slice none 0 0, .slice none 0 0, .slice none 0 0, .slice none 0 0] 99) : WkAt w1 w1.heap.size n lv P (w1.alloc o) 0 0 0 0 0 (.slice none 0 0) (.slice none 0 0) (.slice none 0 0) (.slice none 0 0) (.slice none 0 0) [] [] := by
 subst ho
 refine ⟨below_one w1 _, ⟨_, heap_alloc_new _ _⟩, fun i => ?_, World.ownsRow_nil _ _ _ _, World.ownsRow_nil _ _ _ _, World.ownsRow_nil _ _ _ _, World.ownsRow_nil _ _ _ _, World.ownsRow_nil _ _ _ _, fun i hi => (by omega), fun g hg => (by cases hg), List.nodup_nil, fun g hg => (by cases hg)⟩
 unfold World.frozen?
 rw [show (w1.alloc (Obj.cells #[lv, .slice none 0 0, .slice none 0 0, .slice none 0 0, .slice none 0 0, .slice none 0 0] 99)).heap[w1.heap.size]? = _ from heap_alloc_new _ _]
 simp
structure NdOk (w w3 : World) (X n : Nat) (v lv0 : Value) (ls : List SetM) (sb sc pb pc lb lc mb mc tb tc db dc : Nat) (gl : List Nat) : Prop where
 below : Below w.heap.size w w3
 ge : w.heap.size ≤ X
 lt : X < w3.heap.size
 x0 : w3.cell? ⟨X, 0, none⟩ = some v
 far : (∀ g ∈ gl, X < g) ∧ X < mb ∧ X < tb ∧ X < db
 low : ∀ g, lv0.ownBlock = some g → g < w.heap.size
 read : 0 < n → v = .slice (some ⟨sb, 0, none⟩) n sc ∧ w.heap.size ≤ sb ∧ XAp X n sb pb lb mb tb db gl ∧ IntAt w3 mb n (fun _ => -1) ∧ TxtAt w3 tb n (fun _ => ⟨#[]⟩) ∧ BoolAt w3 db n (fun _ => false) ∧ (∀ g ∈ gl, BoolAt w3 g n fun _ => false) ∧
   ∀ S W, Chg S w3 W → (∀ b, S b → b ∈ gl ∨ b = mb ∨ b = tb ∨ b = db ∨ (b < X ∧ b ≠ sb)) → XSt W X n sb sc pb pc lb lc mb mc tb tc db dc ls gl
section
variable {w w3 W W' : World} {X n sb sc pb pc lb lc mb mc tb tc db dc : Nat} {v lv0 : Value} {ls : List SetM} {gl : List Nat} {S : Nat → Prop}
theorem NdOk.zero (h : NdOk w w3 X n v lv0 ls sb sc pb pc lb lc mb mc tb tc db dc gl) (hc : Chg S w3 W) (hS : ¬ S X) : W.cell? ⟨X, 0, none⟩ = some v := (hc.cell_ h.lt hS).trans h.x0
theorem NdOk.back (h : NdOk w w3 X n v lv0 ls sb sc pb pc lb lc mb mc tb tc db dc gl) (hc : Chg S w3 W) (hS : ∀ b, S b → X ≤ b) : Below w.heap.size w W :=
 h.below.trans ((hc.below (Nat.le_of_lt h.lt) hS).mono h.ge)
end
theorem SetsAt.low {B N : Nat} {S : Nat → Prop} {w w' : World} {v : Value} {ms : List SetM} (h : SetsAt B w v ms) (hc : Chg S w w') (hS : ∀ b, S b → N ≤ b) (hv : ∀ g, v.ownBlock = some g → g < N) (hw : ∀ m ∈ ms, ∀ b off, 0 < m.x.val.words.length → m.a = some ⟨b, off, none⟩ → b < N) : SetsAt B w' v ms :=
 ⟨hc.row h.row (fun g hg e => by have := hS g e; have := hv g hg; omega), fun m hm => by
  have h0 := h.wds m hm
  refine ⟨fun k hk => ?_, h0.2.1, h0.2.2⟩
  obtain ⟨b, off, e, hl, hcl⟩ := h0.1 k hk
  have hb := hw m hm b off (by omega) e
  exact ⟨b, off, e, Nat.lt_of_lt_of_le hl hc.size, (hc.cell_ (b := b) (i := off + k) hl (fun e => by have := hS b e; omega)).trans hcl⟩⟩
theorem keys_apart {B : Nat} {w : World} {lv : Value} {ms : List SetM} {ks : List KeyV} {yk : Option Addr} (hK : Keys w yk ks) (h : SetsAt B w lv ms) (hl : ms.length = ks.length) : ∀ i, i < ks.length → ∀ b off, yk = some ⟨b, off, none⟩ → lv.ownBlock ≠ some b := fun i hi b off e e2 => by
 obtain ⟨g, c, hv, hgl, hcs⟩ := h.cells (k := 0) (by omega)
 have hc2 := hcs 2 (by decide)
 rw [hv] at e2
 have : g = b := by simpa [Value.ownBlock] using e2
 subst this
 obtain ⟨b2, e3, _, _, _, d2, _⟩ := hK 0 (by omega)
 rw [e] at e3
 injection e3 with e3
 injection e3 with e3 _ _
 subst e3
 rw [Nat.zero_mul] at d2 hc2
 rw [d2] at hc2
 cases hc2
end Go.Proofs.YtopghlnoklajkaaGreatDoor
