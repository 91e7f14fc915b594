/-
  RefsWait, RefsUw, RefsSpW, RefsEps, RefsShow, LayMade, RefsStd, DrvRun2, DrvRun3, DrvRun4, KeyStands0, KeyStands1, DrvLaw, DrvAwake, DrvStands0.
-/
import Derived.Test.YtlcgfdijohgnpaaGreatDoorQRefsSpk
import Derived.Test.YtlcgfdijohgnpaaGreatDoorQValuePrint
import Derived.Test.YtlcgfdijohgnpaaGreatDoorQValueArg
import Derived.Test.YtlcgfdijohgnpaaGreatDoorQValueAll
import Derived.Test.YtlcgfdijohgnpaaGreatDoorQLayMerge
import Derived.Test.YtlcgfdijohgnpaaGreatDoorQKeyFinds
import Derived.Test.YtlcgfdijohgnpaaGreatDoorQDrvRun1
import Derived.Test.YtlcgfdijohgnpaaGreatDoorQKeyRefs
import Derived.Test.YtlcgfdijohgnpaaGreatDoorQSetMerge
namespace Go.Proofs.YtlcgfdijohgnpaaGreatDoor
open Go.ChangeShapes Go.WideShapes Go.ChangeAt Go.RowKit

end Go.Proofs.YtlcgfdijohgnpaaGreatDoor

namespace Go.Proofs.YtlcgfdijohgnpaaGreatDoor
open Go.ChangeShapes Go.WideShapes Go.ChangeAt Go.RowKit

/-! How many are left, as the world has it -/
section
variable {S : Spk} {ns : List ByteArray} {w wr w' : World} {M k0 k1 : Nat} {D : Nat → Bool} {Kx : Nat → List UInt8 × Bool}
end
end Go.Proofs.YtlcgfdijohgnpaaGreatDoor

namespace Go.Proofs.YtlcgfdijohgnpaaGreatDoor
open Go.ChangeShapes Go.WideShapes Go.ChangeAt Go.RowKit

def Tx (ms : List SetM) (i : Nat) : List UInt8 := match ms[i]? with | some m => (printR m.x.val).1 | none => []
def Px (ms : List SetM) (i : Nat) : List PcB := (piecesB (Tx ms i)).getD []
theorem Px_is {ms : List SetM} {i : Nat} {l : List PcB} (h : piecesB (Tx ms i) = some l) : Px ms i = l := by unfold Px; rw [h]; rfl
section
variable {ms : List SetM} {w wr w' : World} {q : Nat} {X : Nat → Option Addr} {C : Nat → Nat}
end
end Go.Proofs.YtlcgfdijohgnpaaGreatDoor

namespace Go.Proofs.YtlcgfdijohgnpaaGreatDoor
open Go.ChangeShapes Go.WideShapes Go.ChangeAt Go.RowKit

def fBad (ms : List SetM) : Option Nat := firstB ms.length (fun i => (piecesB (Tx ms i)).isNone)
theorem formed {ms : List SetM} (h : fBad ms = none) : ∀ i, i < ms.length → piecesB (Tx ms i) = some (Px ms i) := fun i hi => by
 have h1 := firstB_no h i hi
 cases hp : piecesB (Tx ms i) with
 | none => rw [hp] at h1; cases h1
 | some l => rw [Px_is hp]
end Go.Proofs.YtlcgfdijohgnpaaGreatDoor

namespace Go.Proofs.YtlcgfdijohgnpaaGreatDoor

end Go.Proofs.YtlcgfdijohgnpaaGreatDoor

namespace Go.Proofs.YtlcgfdijohgnpaaGreatDoor
open Go.ChangeShapes Go.WideShapes Go.ChangeAt Go.RowKit

theorem results_tmp4 {fn : Func} {t u v x : Tmp} (h : fn.results = #[.tmp t, .tmp u, .tmp v, .tmp x]) (tmps : Array Value) (P : Program) (w : World) :
  (results fn tmps).run P w = .ok (.tuple #[tmps.getD t undef, tmps.getD u undef, tmps.getD v undef, tmps.getD x undef]) w := by
 simp [results, h]
theorem map_at {A B C : Type} {f : A → C} {g : B → C} {a : List A} {b : List B} (h : a.map f = b.map g) (i : Nat) (h1 : i < a.length) (h2 : i < b.length) : f a[i] = g b[i] := by
 have h3 : (a.map f)[i]? = (b.map g)[i]? := by rw [h]
 simpa [h1, h2] using h3
theorem made_ok {ks : List KeyV} {ms : List SetM} (hG : GoodK ks) (h : ms.map (·.x) = ks.map dfltS) : LayOk ks ms := by
 have hl : ms.length = ks.length := by simpa using congrArg List.length h
 refine ⟨hl, fun i h1 h2 => ?_, fun i h1 h2 => ?_, fun m hm => ?_⟩
 ·rw [map_at h i h1 h2]; rfl
 ·rw [map_at h i h1 h2]
  have hd := hG.dflt _ (List.getElem_mem h2)
  unfold dfltK at hd
  simp only [Bool.and_eq_true, decide_eq_true_eq] at hd
  obtain ⟨r1, r2, _⟩ := read_right hd.1
  unfold mayV dfltS
  simp [r1, r2, hd.2]
 ·have : m.x ∈ ks.map dfltS := by rw [← h]; exact List.mem_map_of_mem hm
  obtain ⟨k, _, e⟩ := List.mem_map.1 this
  rw [← e]
  exact ⟨Int.le_refl (0 : Int), show (0 : Int) ≤ 5 by decide⟩
set_option maxRecDepth 100000 in
theorem lorigins_none (w : World) : Calls Tryz.prog 36 #[.slice none 0 0] w fun e w' => e = .returned (.bool true) ∧ w = w' := by
 go_enter Tryz.func36, Tryz.ntmps36
 go_wp2
 go_loopw [8] (fun i wr => i = .int .i64 0 ∧ w = wr) (fun _ _ => 0)
 case atStart => exact ⟨rfl, rfl⟩
 case round =>
  obtain ⟨rfl, rfl⟩ := hrel
  go_wp2
  go_ret
  exact ⟨rfl, rfl⟩
def MgRes (ks : List KeyV) (w : World) (e : Ending) (w' : World) : Prop := ∃ dx dc hx hc ms, e = .returned (.tuple #[.pointer (some ⟨w.heap.size, 0, none⟩), .int .i64 0, .int .i64 0, .int .i64 0]) ∧ LayAt (fun b => w.heap.size ≤ b ∧ b < w'.heap.size ∧ b ≠ w.heap.size) w' w.heap.size dx dc hx hc ks ms ∧ LayOk ks ms ∧ ms.map (·.x) = ks.map dfltS ∧ Below w.heap.size w w'
set_option maxHeartbeats 1600000 in
set_option maxRecDepth 100000 in
theorem lmerge_any (ks : List KeyV) (S : Nat) (sx : Option Addr) (sc : Nat) (w : World) (hS : SetAt w S sx sc ks) (hG : GoodK ks) (hT : Tab w) (hU : Units w) (hM : MaxI w) :
  Calls Tryz.prog 17 #[.pointer (some ⟨S, 0, none⟩), .slice none 0 0, .slice none 0 0] w (MgRes ks w) := by
 have HD := Lib.hid (ldefaults_any ks S sx sc w hS hG hT hU hM)
 have HO := Lib.hid (lorigins_none w)
 have HF : Hid (∀ dv hv ms w2, (∃ B, DfIn w w2 w.heap.size B dv hv ks ms) → ms.map (·.x) = ks.map dfltS → MgRes ks w (.returned (.tuple #[.pointer (some ⟨w.heap.size, 0, none⟩), .int .i64 0, .int .i64 0, .int .i64 0])) w2) := Lib.hid fun dv hv ms w2 h1 h2 => by
  obtain ⟨B, h1⟩ := h1
  have ho := made_ok hG h2
  obtain ⟨dx, dc, hx, hc, h3, _, _⟩ := h1.done ho.len
  exact ⟨dx, dc, hx, hc, ms, rfl, h3, ho, h2, h1.below⟩
 clear hS hG hT hU hM
 go_enter Tryz.func17, Tryz.ntmps17
 go_wp2_with fail
 refine HO.out.mono ?_
 rintro e w1 ⟨rfl, rfl⟩
 go_wp2_with fail
 refine HD.out.mono ?_
 rintro e w2 ⟨dv, hv, ms, rfl, h1, h2⟩
 have HE := Lib.hid (HF.out dv hv ms w2 h1 h2)
 clear h1 h2 HD HO HF
 go_wp2
 go_loopw [33] (fun i wr => i = .int .i64 0 ∧ w2 = wr) (fun _ _ => 0)
 case atStart => exact ⟨rfl, rfl⟩
 case round =>
  obtain ⟨rfl, rfl⟩ := hrel
  go_wp2
  (try simp only [Exit.inBlock, Exit.then])
  refine bodyPost_ret (results_tmp4 rfl _ _ _) rfl ?_
  exact HE.out
end Go.Proofs.YtlcgfdijohgnpaaGreatDoor

namespace Go.Proofs.YtlcgfdijohgnpaaGreatDoor

theorem GoodK.nil_ : GoodK [] := ⟨fun _ b hb => absurd hb (Nat.not_lt_zero b), Nat.zero_le _, fun _ hk => absurd hk List.not_mem_nil, fun _ hk => absurd hk List.not_mem_nil, fun _ hk => absurd hk List.not_mem_nil⟩
theorem GoodK.add {xs : List KeyV} (h : GoodK xs) {k : KeyV} (hk : Small k) : GoodK (addK xs k) := by
 refine ⟨addK_sorted k h.sorted, addK_len xs k h.len, ?_, ?_, ?_⟩
 all_goals
  intro x hx
  unfold addK at hx
  split at hx
  ·rename_i h0
   unfold insK at hx
   have hmem : x ∈ xs ∨ x = k := by
    rcases List.mem_append.1 hx with hx | hx
    ·exact .inl (List.mem_of_mem_take hx)
    ·rcases List.mem_cons.1 hx with rfl | hx
     ·exact .inr rfl
     ·exact .inl (List.mem_of_mem_drop hx)
   rcases hmem with hm | rfl
   ·first | exact h.form x hm | exact h.dflt x hm | exact h.small x hm
   ·unfold addE at h0
    split at h0
    ·exact absurd h0 (by decide)
    ·split at h0
     ·exact absurd h0 (by decide)
     ·rename_i h1 h2
      first | exact hk | (simpa using h1) | (simpa using h2)
  ·first | exact h.form x hx | exact h.dflt x hx | exact h.small x hx
theorem GoodK.fold : ∀ (l : List KeyV) (xs : List KeyV), GoodK xs → (∀ k ∈ l, Small k) → GoodK (l.foldl addK xs) := by
 intro l
 induction l with
 | nil => intro xs h _; exact h
 | cons k r ih => intro xs h hs; exact ih _ (h.add (hs k (List.mem_cons_self ..))) fun x hx => hs x (List.mem_cons_of_mem _ hx)
theorem sx_good : GoodK stdL := by
 rw [← std_fold]
 refine GoodK.fold _ _ GoodK.nil_ fun k hk => ?_
 rcases List.mem_append.1 hk with hk | hk
 ·rcases List.mem_append.1 hk with hk | hk
  ·exact (std_small netL (by simp)).2 k hk
  ·exact (std_small logL (by simp)).2 k hk
 ·exact (std_small sbL (by simp)).2 k hk
end Go.Proofs.YtlcgfdijohgnpaaGreatDoor

namespace Go.Proofs.YtlcgfdijohgnpaaGreatDoor
open Go.ChangeShapes Go.WideShapes Go.ChangeAt Go.RowKit

def nBL : ByteArray := ⟨#[98, 111, 111, 116, 46, 108, 105, 109, 105, 116]⟩
def nBW : ByteArray := ⟨#[98, 111, 111, 116, 46, 119, 111, 114, 107, 101, 114, 115]⟩
def nBS : ByteArray := ⟨#[98, 111, 111, 116, 46, 115, 101, 114, 118, 105, 99, 101, 115]⟩
def nSC : ByteArray := ⟨#[115, 116, 111, 114, 101, 46, 99, 97, 99, 104, 101]⟩
def nSP : ByteArray := ⟨#[115, 116, 111, 114, 101, 46, 112, 97, 103, 101]⟩
def sW : SetV := ⟨⟨#[98, 111, 111, 116, 46, 119, 111, 114, 107, 101, 114, 115]⟩, ⟨2, 3, ⟨#[]⟩, []⟩, 5⟩
def sL : SetV := ⟨⟨#[98, 111, 111, 116, 46, 108, 105, 109, 105, 116]⟩, ⟨2, 48, ⟨#[]⟩, []⟩, 5⟩
def sP : SetV := ⟨⟨#[115, 116, 111, 114, 101, 46, 112, 97, 103, 101]⟩, ⟨3, 4096, ⟨#[]⟩, []⟩, 5⟩
structure Five (xs : List SetV) : Prop where
 names : xs.map (·.name) = stdL.map (·.name)
 limit : xs[1]? = some ⟨⟨#[98, 111, 111, 116, 46, 108, 105, 109, 105, 116]⟩, ⟨2, 0, ⟨#[]⟩, []⟩, 0⟩
 services : ∃ ws fr, xs[2]? = some ⟨⟨#[98, 111, 111, 116, 46, 115, 101, 114, 118, 105, 99, 101, 115]⟩, ⟨6, 0, ⟨#[]⟩, ws⟩, fr⟩ ∧ ws.length = 2
 workers : xs[3]? = some ⟨⟨#[98, 111, 111, 116, 46, 119, 111, 114, 107, 101, 114, 115]⟩, ⟨2, 0, ⟨#[]⟩, []⟩, 0⟩
 cache : ∃ fr, xs[13]? = some ⟨⟨#[115, 116, 111, 114, 101, 46, 99, 97, 99, 104, 101]⟩, ⟨3, 4194304, ⟨#[]⟩, []⟩, fr⟩
 page : ∃ n, xs[15]? = some ⟨⟨#[115, 116, 111, 114, 101, 46, 112, 97, 103, 101]⟩, ⟨3, n, ⟨#[]⟩, []⟩, 0⟩
theorem five_dflt : Five (stdL.map dfltS) := ⟨by kernel_rfl, by kernel_rfl, ⟨[⟨#[108, 111, 103]⟩, ⟨#[110, 101, 116]⟩], 0, by kernel_rfl, rfl⟩, by kernel_rfl, ⟨0, by kernel_rfl⟩, ⟨4096, by kernel_rfl⟩⟩
def runX (xs : List SetV) : Nat → List SetV
 | 0 => xs
 | 1 => xs.set 3 sW
 | 2 => (xs.set 3 sW).set 1 sL
 | _ => ((xs.set 3 sW).set 1 sL).set 15 sP
theorem pl1 : placeN (stdL.map (·.name)) ⟨#[98, 111, 111, 116, 46, 108, 105, 109, 105, 116]⟩ = 1 := by kernel_rfl
theorem pl2 : placeN (stdL.map (·.name)) ⟨#[98, 111, 111, 116, 46, 115, 101, 114, 118, 105, 99, 101, 115]⟩ = 2 := by kernel_rfl
theorem pl3 : placeN (stdL.map (·.name)) ⟨#[98, 111, 111, 116, 46, 119, 111, 114, 107, 101, 114, 115]⟩ = 3 := by kernel_rfl
theorem pl13 : placeN (stdL.map (·.name)) ⟨#[115, 116, 111, 114, 101, 46, 99, 97, 99, 104, 101]⟩ = 13 := by kernel_rfl
theorem pl15 : placeN (stdL.map (·.name)) ⟨#[115, 116, 111, 114, 101, 46, 112, 97, 103, 101]⟩ = 15 := by kernel_rfl
theorem may3 : ∀ h : 3 < stdL.length, mayV (stdL[3]'h) ⟨2, 3, ⟨#[]⟩, []⟩ = true := fun h => by kernel_rfl
theorem may1 : ∀ h : 1 < stdL.length, mayV (stdL[1]'h) ⟨2, 48, ⟨#[]⟩, []⟩ = true := fun h => by kernel_rfl
theorem may15 : ∀ h : 15 < stdL.length, mayV (stdL[15]'h) ⟨3, 4096, ⟨#[]⟩, []⟩ = true := fun h => by kernel_rfl
theorem Five.len {xs : List SetV} (h : Five xs) : xs.length = 16 := by
 have := congrArg List.length h.names
 rw [List.length_map, List.length_map] at this
 exact this
theorem names_set {xs : List SetV} {j : Nat} {v : SetV} {u : SetV} (h : xs[j]? = some u) (hn : v.name = u.name) : (xs.set j v).map (·.name) = xs.map (·.name) := by
 rw [List.map_set]
 apply List.ext_getElem?
 intro i
 rw [List.getElem?_set]
 split
 ·rename_i e
  subst e
  obtain ⟨hj, e⟩ := List.getElem?_eq_some_iff.1 h
  rw [List.length_map, if_pos hj, List.getElem?_map, h, hn]; rfl
 ·rfl
theorem runX_names {xs : List SetV} (h : Five xs) (t : Nat) : (runX xs t).map (·.name) = stdL.map (·.name) := by
 have h1 : (xs.set 3 sW).map (·.name) = stdL.map (·.name) := (names_set (v := sW) h.workers rfl).trans h.names
 have e1 : (xs.set 3 sW)[1]? = some ⟨⟨#[98, 111, 111, 116, 46, 108, 105, 109, 105, 116]⟩, ⟨2, 0, ⟨#[]⟩, []⟩, 0⟩ := by rw [List.getElem?_set_ne (by decide)]; exact h.limit
 have h2 : ((xs.set 3 sW).set 1 sL).map (·.name) = stdL.map (·.name) := (names_set (v := sL) e1 rfl).trans h1
 obtain ⟨n, hp⟩ := h.page
 have e2 : ((xs.set 3 sW).set 1 sL)[15]? = some ⟨⟨#[115, 116, 111, 114, 101, 46, 112, 97, 103, 101]⟩, ⟨3, n, ⟨#[]⟩, []⟩, 0⟩ := by rw [List.getElem?_set_ne (by decide), List.getElem?_set_ne (by decide)]; exact hp
 match t with
 | 0 => exact h.names
 | 1 => exact h1
 | 2 => exact h2
 | n + 3 => exact (names_set (v := sP) e2 rfl).trans h2
theorem at_of {ms : List SetM} {xs : List SetV} (h : ms.map (·.x) = xs) {j : Nat} {v : SetV} (hv : xs[j]? = some v) (hj : j < ms.length) : (ms[j]'hj).x = v := by
 rw [← h, List.getElem?_map, List.getElem?_eq_getElem hj] at hv
 exact Option.some.inj hv
theorem namesM_of {ms : List SetM} {xs : List SetV} (h : ms.map (·.x) = xs) : namesM ms = xs.map (·.name) := by
 rw [← h, List.map_map]; rfl
theorem std_dis : Dis (stdL.map (·.name)) := by
 have hk : ∀ i (hi : i < (stdL.map (·.name)).length), placeN (stdL.map (·.name)) (stdL.map (·.name))[i] = (i : Int) := by
  have : ((List.range 16).all fun i => decide (∀ hi : i < (stdL.map (·.name)).length, placeN (stdL.map (·.name)) ((stdL.map (·.name))[i]'hi) = (i : Int))) = true := by kernel_rfl
  intro i hi
  have h2 := List.all_eq_true.1 this i (List.mem_range.2 hi)
  exact (of_decide_eq_true h2) hi
 intro i j hi hj e
 have h1 := hk i hi
 have h2 := hk j hj
 rw [e] at h1
 omega
end Go.Proofs.YtlcgfdijohgnpaaGreatDoor

namespace Go.Proofs.YtlcgfdijohgnpaaGreatDoor
open Go.ChangeShapes Go.WideShapes Go.ChangeAt Go.RowKit

structure Sx (B : Nat) (F : Nat → Prop) (w : World) (X : Nat) (dx : Option Addr) (dc : Nat) (xs : List SetV) (ms : List SetM) : Prop where
 at_ : ∃ hx hc, LayAt F w X dx dc hx hc stdL ms
 ok : LayOk stdL ms
 xs : ms.map (·.x) = xs
theorem Sx.below {B : Nat} {F : Nat → Prop} {w w' : World} {X : Nat} {dx : Option Addr} {dc : Nat} {xs : List SetV} {ms : List SetM} (h : Sx B F w X dx dc xs ms) (hb : Below w.heap.size w w') : Sx B F w' X dx dc xs ms := by
 obtain ⟨hx, hc, ha⟩ := h.at_
 exact ⟨⟨hx, hc, ha.below hb⟩, h.ok, h.xs⟩
theorem Sx.len {B : Nat} {F : Nat → Prop} {w : World} {X : Nat} {dx : Option Addr} {dc : Nat} {xs : List SetV} {ms : List SetM} (h : Sx B F w X dx dc xs ms) : ms.length = 16 := h.ok.len
theorem Sx.dis {B : Nat} {F : Nat → Prop} {w : World} {X : Nat} {dx : Option Addr} {dc : Nat} {xs : List SetV} {ms : List SetM} (h : Sx B F w X dx dc xs ms) (hn : xs.map (·.name) = stdL.map (·.name)) : Dis (namesM ms) := by rw [namesM_of h.xs, hn]; exact std_dis
theorem Sx.gets {B : Nat} {F : Nat → Prop} {w : World} {X : Nat} {dx : Option Addr} {dc : Nat} {xs : List SetV} {ms : List SetM} (h : Sx B F w X dx dc xs ms) (hn : xs.map (·.name) = stdL.map (·.name)) {s : ByteArray} {j : Nat} {v : SetV} (hp : placeN (stdL.map (·.name)) s = (j : Int)) (hv : xs[j]? = some v) : GetsAt w X s v := by
 obtain ⟨hx, hc, ha⟩ := h.at_
 have hj : j < ms.length := by
  obtain ⟨h1, _⟩ := List.getElem?_eq_some_iff.1 hv
  rw [← h.xs, List.length_map] at h1
  exact h1
 have := gets_of ha h.ok sx_good.sorted (h.dis hn) (by rw [h.len]; decide) (s := s) hj (by rw [namesM_of h.xs, hn]; exact hp)
 rw [at_of h.xs hv hj] at this
 exact this
def RnRes (F : Nat → Prop) (w : World) (X : Nat) (dx : Option Addr) (dc : Nat) (xs : List SetV) (e : Ending) (w' : World) : Prop :=
 ∃ F2 ms, e = .returned (.tuple #[.int .i64 0, .string ⟨#[]⟩]) ∧ Sx 0 F2 w' X dx dc (runX xs 3) ms ∧ (∀ b, F2 b → F b ∨ w.heap.size ≤ b) ∧ But X w w'
def ordN : Nat → Nat
 | 0 => 1
 | 1 => 0
 | _ => 2
theorem ord_lt (k : Nat) (b1 b2 b3 : Nat) : ordN k < (stdRM b1 b2 b3).length := by
 match k with
 | 0 => exact Nat.lt_of_sub_eq_succ rfl
 | 1 => exact Nat.lt_of_sub_eq_succ rfl
 | n + 2 => exact Nat.lt_of_sub_eq_succ rfl
set_option maxHeartbeats 3200000 in
set_option maxRecDepth 100000 in
theorem drun_any (F : Nat → Prop) (X : Nat) (w : World) (dx : Option Addr) (dc : Nat) (xs : List SetV) (ms : List SetM) (k : Nat) (hk : k < 3) (h : Sx 0 F w X dx dc (runX xs k) ms) (h5 : Five xs) (hT : Tab w) (g b1 b2 b3 : Nat) (hR : RulesAt w (some ⟨g, 0, none⟩) (stdRM b1 b2 b3)) :
  Calls Tryz.prog 23 #[rAgg ((stdRM b1 b2 b3)[ordN k]'(ord_lt k b1 b2 b3)), .pointer (some ⟨X, 0, none⟩)] w fun e w' => ∃ F2 ms2, e = .returned (.bool true) ∧ Sx 0 F2 w' X dx dc (runX xs (k + 1)) ms2 ∧ (∀ b, F2 b → F b ∨ w.heap.size ≤ b) ∧ But X w w' := by
 obtain ⟨hx, hc, ha⟩ := h.at_
 have hn := runX_names h5 k
 have hd := h.dis hn
 have hl := h.len
 have hp : ∀ s j, placeN (stdL.map (·.name)) s = j → placeN (namesM ms) s = j := fun s j e => by rw [namesM_of h.xs, hn]; exact e
 have ht : ∀ i (hi : i < (stdRM b1 b2 b3).length), TxAt w (stdRM b1 b2 b3)[i].a (stdRM b1 b2 b3)[i].x.needs := fun i hi => by
  obtain ⟨b, _, _, _, _, _, _, h⟩ := hR i hi
  exact h
 have key : ∀ (j : Nat) (v : SetV), RunRes F w X dx dc stdL ((ms.map (·.x)).set j v) = RunRes F w X dx dc stdL ((runX xs k).set j v) := fun j v => by rw [h.xs]
 have fin : ∀ {j : Nat} {v : SetV} {e : Ending} {w' : World}, RunRes F w X dx dc stdL ((ms.map (·.x)).set j v) e w' → (runX xs k).set j v = runX xs (k + 1) → ∃ F2 ms2, e = .returned (.bool true) ∧ Sx 0 F2 w' X dx dc (runX xs (k + 1)) ms2 ∧ (∀ b, F2 b → F b ∨ w.heap.size ≤ b) ∧ But X w w' := fun hr e => by
  rw [key, e] at hr
  obtain ⟨F2, hx2, hc2, ms2, he, ha2, hok2, hxs2, hF, hb⟩ := hr
  exact ⟨F2, ms2, he, ⟨⟨hx2, hc2, ha2⟩, hok2, hxs2⟩, hF, hb⟩
 obtain ⟨ws, wf, hs2, hws⟩ := h5.services
 obtain ⟨cf, hca⟩ := h5.cache
 obtain ⟨pn, hpa⟩ := h5.page
 have h3 : k = 0 ∨ k = 1 ∨ k = 2 := by omega
 rcases h3 with rfl | rfl | rfl
 ·have a3 := at_of h.xs (j := 3) h5.workers (by omega)
  have a2 := at_of h.xs (j := 2) hs2 (by omega)
  have := drunAdd_any F X w dx hx dc hc stdL ms ha h.ok sx_good.sorted hd (by omega) hT _ nBS rfl (ht 1 (by exact Nat.lt_of_sub_eq_succ rfl)) 3 2 (by omega) (by decide) (by omega) (hp _ _ pl3) (hp _ _ pl2) (by rw [a3]) rfl (by rw [a2]; show ((ws.length : Nat) : Int) = 2; omega) rfl (by rw [a3]; exact may3 _)
  rw [a3] at this
  exact this.mono fun _ _ hr => fin hr rfl
 ·have a1 := at_of h.xs (j := 1) (v := ⟨nBL, ⟨2, 0, ⟨#[]⟩, []⟩, 0⟩) (by show (xs.set 3 sW)[1]? = _; rw [List.getElem?_set_ne (by decide)]; exact h5.limit) (by omega)
  have a3 := at_of h.xs (j := 3) (v := sW) (by show (xs.set 3 sW)[3]? = _; rw [List.getElem?_set_self (by rw [h5.len]; decide)]) (by omega)
  have := drunMul_any F X w dx hx dc hc stdL ms ha h.ok sx_good.sorted hd (by omega) hT _ nBW rfl (ht 0 (by exact Nat.lt_of_sub_eq_succ rfl)) 1 3 (by omega) (by decide) (by omega) (hp _ _ pl1) (hp _ _ pl3) (by rw [a1]) rfl (by rw [a3]; rfl) rfl (by rw [a1]; exact may1 _)
  rw [a1] at this
  exact this.mono fun _ _ hr => fin hr rfl
 ·have a15 := at_of h.xs (j := 15) (v := ⟨nSP, ⟨3, pn, ⟨#[]⟩, []⟩, 0⟩) (by show ((xs.set 3 sW).set 1 sL)[15]? = _; rw [List.getElem?_set_ne (by decide), List.getElem?_set_ne (by decide)]; exact hpa) (by omega)
  have a13 := at_of h.xs (j := 13) (v := ⟨nSC, ⟨3, 4194304, ⟨#[]⟩, []⟩, cf⟩) (by show ((xs.set 3 sW).set 1 sL)[13]? = _; rw [List.getElem?_set_ne (by decide), List.getElem?_set_ne (by decide)]; exact hca) (by omega)
  have := drunShr_any F X w dx hx dc hc stdL ms ha h.ok sx_good.sorted hd (by omega) hT _ nSC rfl (ht 2 (by exact Nat.lt_of_sub_eq_succ rfl)) 15 13 (by omega) (by decide) (by omega) (hp _ _ pl15) (hp _ _ pl13) (by rw [a15]) rfl (by rw [a13]; rfl) rfl (by rw [a15]; exact may15 _)
  rw [a15] at this
  exact this.mono fun _ _ hr => fin hr rfl
def outK : Nat → SetV
 | 0 => sW
 | 1 => sL
 | _ => sP
def idxK : Nat → Nat
 | 0 => 3
 | 1 => 1
 | _ => 15
theorem tgtK (k b1 b2 b3 : Nat) : ((stdRM b1 b2 b3)[ordN k]'(ord_lt k b1 b2 b3)).x.target = (outK k).name := by
 match k with
 | 0 => rfl
 | 1 => rfl
 | n + 2 => rfl
theorem plK (k : Nat) : placeN (stdL.map (·.name)) (outK k).name = (idxK k : Int) := by
 match k with
 | 0 => exact pl3
 | 1 => exact pl1
 | n + 2 => exact pl15
theorem idxK_lt (k : Nat) : idxK k < 16 := by
 match k with
 | 0 => decide
 | 1 => decide
 | n + 2 => exact Nat.lt_of_sub_eq_succ rfl
theorem mayK (k : Nat) (h : idxK k < stdL.length) : mayV (stdL[idxK k]'h) (outK k).val = true := by
 match k with
 | 0 => exact may3 _
 | 1 => exact may1 _
 | n + 2 => exact may15 _
theorem setK {xs : List SetV} {k : Nat} (hk : k < 3) : (runX xs k).set (idxK k) (outK k) = runX xs (k + 1) := by
 have h3 : k = 0 ∨ k = 1 ∨ k = 2 := by omega
 rcases h3 with rfl | rfl | rfl <;> rfl
theorem lastK {xs : List SetV} (h : Five xs) {k : Nat} (hk : k < 3) : (runX xs 3)[idxK k]? = some (outK k) := by
 have hl := h.len
 have h3 : k = 0 ∨ k = 1 ∨ k = 2 := by omega
 rcases h3 with rfl | rfl | rfl
 ·show (((xs.set 3 sW).set 1 sL).set 15 sP)[3]? = some sW
  rw [List.getElem?_set_ne (by decide), List.getElem?_set_ne (by decide), List.getElem?_set_self (by omega)]
 ·show (((xs.set 3 sW).set 1 sL).set 15 sP)[1]? = some sL
  rw [List.getElem?_set_ne (by decide), List.getElem?_set_self (by rw [List.length_set]; omega)]
 ·show (((xs.set 3 sW).set 1 sL).set 15 sP)[15]? = some sP
  rw [List.getElem?_set_self (by rw [List.length_set, List.length_set]; omega)]
theorem outK_val (k : Nat) : ∃ kd n, outK k = ⟨(outK k).name, ⟨kd, n, ⟨#[]⟩, []⟩, 5⟩ := by
 match k with
 | 0 => exact ⟨2, 3, rfl⟩
 | 1 => exact ⟨2, 48, rfl⟩
 | n + 2 => exact ⟨3, 4096, rfl⟩
theorem dhas_any (F : Nat → Prop) (X : Nat) (w : World) (dx : Option Addr) (dc : Nat) (xs : List SetV) (ms : List SetM) (k : Nat) (hk : k < 3) (h : Sx 0 F w X dx dc xs ms) (h5 : Five xs) (g b1 b2 b3 : Nat) (hR : RulesAt w (some ⟨g, 0, none⟩) (stdRM b1 b2 b3)) :
  Calls Tryz.prog 20 #[.pointer (some ⟨X, 0, none⟩), rAgg ((stdRM b1 b2 b3)[ordN k]'(ord_lt k b1 b2 b3))] w fun e w' => e = .returned (.bool true) ∧ Below w.heap.size w w' := by
 have ht : ∀ i (hi : i < (stdRM b1 b2 b3).length), TxAt w (stdRM b1 b2 b3)[i].a (stdRM b1 b2 b3)[i].x.needs := fun i hi => by
  obtain ⟨b, _, _, _, _, _, _, h⟩ := hR i hi
  exact h
 obtain ⟨ws, wf, hs2, hws⟩ := h5.services
 obtain ⟨cf, hca⟩ := h5.cache
 obtain ⟨pn, hpa⟩ := h5.page
 have h3 : k = 0 ∨ k = 1 ∨ k = 2 := by omega
 rcases h3 with rfl | rfl | rfl
 ·exact dhasAll_any w X _ nBS _ _ rfl (ht 1 (by exact Nat.lt_of_sub_eq_succ rfl)) (h.gets h5.names pl3 h5.workers) (h.gets h5.names pl2 hs2) (.inl rfl) (.inl ⟨rfl, rfl⟩)
 ·exact dhasAll_any w X _ nBW _ _ rfl (ht 0 (by exact Nat.lt_of_sub_eq_succ rfl)) (h.gets h5.names pl1 h5.limit) (h.gets h5.names pl3 h5.workers) (.inl rfl) (.inr ⟨(show (4 : Int) ≠ 6 by decide), .inl rfl⟩)
 ·exact dhasAll_any w X _ nSC _ _ rfl (ht 2 (by exact Nat.lt_of_sub_eq_succ rfl)) (h.gets h5.names pl15 hpa) (h.gets h5.names pl13 hca) (.inr (.inl rfl)) (.inr ⟨(show (5 : Int) ≠ 6 by decide), .inr (.inl rfl)⟩)
theorem dput_any (F : Nat → Prop) (X : Nat) (w : World) (dx : Option Addr) (dc : Nat) (xs : List SetV) (ms : List SetM) (k : Nat) (hk : k < 3) (h : Sx 0 F w X dx dc (runX xs k) ms) (h5 : Five xs) (hT : Tab w) (y : Option Addr) (d : Nat) :
  Calls Tryz.prog 24 #[.pointer (some ⟨X, 0, none⟩), .string (outK k).name, argV (outK k).val y d, .int .i64 5] w fun e w' => (∃ E, e = .returned (.int .i64 E)) ∧ ∃ F2 ms2, Sx 0 F2 w' X dx dc (runX xs (k + 1)) ms2 ∧ (∀ b, F2 b → F b ∨ w.heap.size ≤ b) ∧ But X w w' := by
 obtain ⟨hx, hc, ha⟩ := h.at_
 have hn := runX_names h5 k
 obtain ⟨kd, n, hv⟩ := outK_val k
 have hp := plK k
 have hm := mayK k (idxK_lt k)
 have hs := setK (xs := xs) hk
 generalize (outK k).name = nm at *
 rw [hv] at hm hs ⊢
 have hl := h.len
 refine (lput_any F X w dx hx dc hc stdL ms ha h.ok sx_good.sorted (h.dis hn) (by omega) nm ⟨kd, n, ⟨#[]⟩, []⟩ y d ⟨fun k hk => absurd hk (Nat.not_lt_zero k), Nat.zero_le _, Nat.zero_le _, fun k h => absurd h (Nat.not_lt_zero k), (show (0 : Nat) ≤ _ from Nat.zero_le _)⟩ (Nat.zero_le _) (fun k h => absurd h (Nat.not_lt_zero k)) (show (0 : Nat) ≤ _ from Nat.zero_le _) 5 hT).mono fun e w' hr => ?_
 have hpn : placeN (namesM ms) nm = (idxK k : Int) := by rw [namesM_of h.xs, hn]; exact hp
 obtain ⟨E, he, ⟨h1, _⟩ | ⟨j, h1, h2, hj, h3⟩⟩ := hr
 ·omega
 ·obtain rfl : j = idxK k := by omega
  rcases h3 with ⟨h3, _⟩ | ⟨_, h3, _⟩ | ⟨h3, h4, hE, hx', hc', y', d', hl', hb⟩
  ·exact absurd (hm.symm.trans h3) (by decide)
  ·exact absurd (by decide) h3
  ·have hnm : (ms[idxK k]'h1).x.name = nm := by
    rcases placeN_cases (namesM ms) nm with h0 | ⟨j2, hj2, h6, h7⟩
    ·omega
    ·obtain rfl : j2 = idxK k := by omega
     have e := eq_of_beq h7
     rw [Lib.toList_data, Lib.toList_data, namesM_at h1] at e
     rw [← mkB_self (ms[idxK k]'h1).x.name, e, mkB_self]
   refine ⟨⟨E, he⟩, _, _, ⟨⟨hx', hc', hl'⟩, h.ok.set h1 h2 hm (by decide) y' d', ?_⟩, fun b hb => ?_, hb⟩
   ·rw [map_set, h.xs, hnm]; exact hs
   ·rcases hb with hb | hb
    ·exact .inl hb
    ·exact .inr hb.1
end Go.Proofs.YtlcgfdijohgnpaaGreatDoor

namespace Go.Proofs.YtlcgfdijohgnpaaGreatDoor
open Go.ChangeShapes Go.WideShapes Go.ChangeAt Go.RowKit

theorem Sx.but {B : Nat} {F : Nat → Prop} {w w' : World} {X Q : Nat} {dx : Option Addr} {dc : Nat} {xs : List SetV} {ms : List SetM} (h : Sx B F w X dx dc xs ms) (hb : But Q w w') (hX : Q ≠ X) (hF : ¬ F Q) : Sx B F w' X dx dc xs ms := by
 obtain ⟨hx, hc, ha⟩ := h.at_
 exact ⟨⟨hx, hc, ha.but hb hX hF⟩, h.ok, h.xs⟩
theorem Sx.lt {B : Nat} {F : Nat → Prop} {w : World} {X : Nat} {dx : Option Addr} {dc : Nat} {xs : List SetV} {ms : List SetM} (h : Sx B F w X dx dc xs ms) : X < w.heap.size ∧ ¬ F X ∧ (∀ i s, w.cell? ⟨X, i, none⟩ ≠ some (.string s)) ∧ ∀ b, F b → b < w.heap.size := by
 obtain ⟨hx, hc, ha⟩ := h.at_
 refine ⟨heap_ltF ha.obj, ha.out, fun i s hi => ?_, ha.lt⟩
 rw [cell_of_row w X i _ _ _ ha.obj] at hi
 have h3 : i = 0 ∨ i = 1 ∨ 2 ≤ i := by omega
 rcases h3 with rfl | rfl | h3
 ·cases hi
 ·cases hi
 ·rw [Array.getElem?_eq_none (by simpa using h3)] at hi; cases hi
theorem ordN_lt (k : Nat) : ordN k < 3 := by
 match k with
 | 0 => decide
 | 1 => decide
 | n + 2 => exact Nat.lt_of_sub_eq_succ rfl
theorem ord_row {t : Nat} (h : t < 3) : ([iv 1, iv 0, iv 2] : List Value)[t]? = some (.int .i64 (ordN t : Nat)) := by
 have h3 : t = 0 ∨ t = 1 ∨ t = 2 := by omega
 rcases h3 with rfl | rfl | rfl <;> rfl
structure Ord3 (w : World) (y g b1 b2 b3 : Nat) : Prop where
 ord : ∀ t, t < 3 → w.cell? ⟨y, t, none⟩ = some (.int .i64 (ordN t : Nat))
 rules : RulesAt w (some ⟨g, 0, none⟩) (stdRM b1 b2 b3)
theorem Ord3.below {w w' : World} {y g b1 b2 b3 : Nat} (h : Ord3 w y g b1 b2 b3) (hb : Below w.heap.size w w') : Ord3 w' y g b1 b2 b3 :=
 ⟨fun t ht => (hb.cell (p := ⟨y, t, none⟩) (lt_of_cell (h.ord t ht))).trans (h.ord t ht), h.rules.below hb⟩
theorem Ord3.but {w w' : World} {y g b1 b2 b3 X : Nat} (h : Ord3 w y g b1 b2 b3) (hb : But X w w') (hy : y ≠ X) (hs : ∀ i s, w.cell? ⟨X, i, none⟩ ≠ some (.string s)) : Ord3 w' y g b1 b2 b3 :=
 ⟨fun t ht => (hb.cell (p := ⟨y, t, none⟩) (lt_of_cell (h.ord t ht)) hy).trans (h.ord t ht), h.rules.butP hs hb⟩
set_option maxHeartbeats 6400000 in
set_option maxRecDepth 100000 in
theorem dRun_any (w0 : World) (F : Nat → Prop) (X : Nat) (w : World) (dx : Option Addr) (dc : Nat) (xs : List SetV) (ms : List SetM) (h : Sx 0 F w X dx dc xs ms) (h5 : Five xs) (hT : Tab w0) (h0 : Below w0.heap.size w0 w) (hX0 : w0.heap.size ≤ X) (g c b1 b2 b3 : Nat) (hR : RulesAt w (some ⟨g, 0, none⟩) (stdRM b1 b2 b3)) :
  Calls Tryz.prog 9 #[.pointer (some ⟨X, 0, none⟩), .slice (some ⟨g, 0, none⟩) 3 c] w (RnRes F w X dx dc xs) := by
 have HO := Lib.hid (dorder_any w g c b1 b2 b3 hR (hT.below h0))
 have HS := Lib.hid h
 have H5 := Lib.hid h5
 have HR := Lib.hid hR
 have HT : Hid (∀ W, But X w W → Tab W) := Lib.hid fun W hb => hT.below (h0.trans (hb.below hX0 h0.size))
 have HXL := Lib.hid h.lt
 clear h h5 hT h0 hX0 hR
 go_enter Tryz.func9, Tryz.ntmps9
 go_wp2_with fail
 refine HO.out.mono ?_
 rintro e w1 ⟨y, d, rfl, hr1, hb1⟩
 have hyl := (hr1.lt y rfl).1
 have H1 : Hid (Ord3 w1 y g b1 b2 b3 ∧ Below w.heap.size w w1 ∧ y ≠ X) := Lib.hid ⟨⟨fun t ht => (hr1.cellAt t (by omega)).trans (ord_row ht), HR.out.below hb1⟩, hb1, by have := HXL.out.1; omega⟩
 clear hr1 hb1 hyl HO HR
 go_wp2
 go_loopw [9, 31] (fun _ i wr => ∃ t : Nat, i = .int .i64 t ∧ t ≤ 3 ∧ Hid (Below w1.heap.size w1 wr)) (fun _ i _ => 3 - (intOf i).toNat)
 case atStart => exact ⟨0, rfl, by omega, Lib.hid (Below.refl _ _)⟩
 case round =>
  obtain ⟨t, rfl, ht, HK⟩ := hrel
  by_cases hlt : t < 3
  ·have q1 : (0 : Int) ≤ t := by omega
   have q2 : (t : Int) < 3 := by omega
   have hO := H1.out.1.below HK.out
   have k0 := hO.ord t hlt
   have hbw := H1.out.2.1.trans (HK.out.mono H1.out.2.1.size)
   have HH := Lib.hid (dhas_any F X wr dx dc xs ms t hlt (HS.out.below hbw) H5.out g b1 b2 b3 hO.rules)
   obtain ⟨b, e, hbl, c0, c1, c2, c3, htx⟩ := hO.rules (ordN t) (ord_lt t b1 b2 b3)
   injection e with e
   injection e with e _ _
   subst e
   have hol := ordN_lt t
   generalize (stdRM b1 b2 b3)[ordN t] = m at c0 c1 c2 c3 HH
   generalize ordN t = o at k0 c0 c1 c2 c3 hol
   have q3 : (0 : Int) ≤ o := by omega
   have q4 : (o : Int) < 3 := by omega
   unfold rAgg at HH
   obtain ⟨⟨tg, ns, op, ad⟩, a, mc⟩ := m
   simp only at c0 c1 c2 c3 HH
   generalize ns.length = nl at c1 HH
   clear hO hbw htx
   go_wp2_with fail
   refine HH.out.mono ?_
   rintro e w2 ⟨rfl, hb2⟩
   have HN := Lib.hid (HK.out.trans (hb2.mono HK.out.size))
   clear hb2 HH
   go_wp2
   go_roundw
   case rel => exact ⟨t + 1, by go_num, by omega, HN⟩
   case measure => simp [intOf]; omega
  ·obtain rfl : t = 3 := by omega
   obtain ⟨wA, hwA⟩ : ∃ wA, wA = wr := ⟨_, rfl⟩
   have HA : Hid (Ord3 wA y g b1 b2 b3 ∧ Below w.heap.size w wA) := Lib.hid (by subst hwA; exact ⟨H1.out.1.below HK.out, H1.out.2.1.trans (HK.out.mono H1.out.2.1.size)⟩)
   have HY := Lib.hid H1.out.2.2
   have HCP : Hid (Calls Tryz.prog 22 #[.pointer (some ⟨X, 0, none⟩)] wA fun e w' => e = .returned (.pointer (some ⟨wA.heap.size, 0, none⟩)) ∧ Sx 0 F w' wA.heap.size dx dc xs ms ∧ Below wA.heap.size wA w') := Lib.hid (by
    obtain ⟨hx, hc, ha⟩ := (HS.out.below HA.out.2).at_
    exact (lcopy_any F X wA dx hx dc hc stdL ms ha).mono fun _ _ hh => ⟨hh.1, ⟨⟨hx, hc, hh.2.1⟩, HS.out.ok, HS.out.xs⟩, hh.2.2⟩)
   rw [← hwA, show ((3 : Nat) : Int) = 3 from rfl]
   clear hwA HK H1
   go_wp2_with fail
   refine HCP.out.mono ?_
   rintro e wB ⟨rfl, hsB, hbB⟩
   have HF0 : Hid (∀ b, F b → F b ∨ w.heap.size ≤ b) := Lib.hid fun b hb => .inl hb
   have HBB : Hid (Below wA.heap.size wA wB) := Lib.hid hbB
   have HSB := Lib.hid hsB
   clear hsB hbB HCP
   obtain ⟨M, hM⟩ : ∃ M, wA.heap.size = M := ⟨_, rfl⟩
   have HM : Hid (wA.heap.size = M) := Lib.hid hM
   rw [hM] at HSB ⊢
   clear hM
   go_wp2
   go_loopw [12, 53] (fun _ i wr => ∃ t : Nat, i = .int .i64 t ∧ t ≤ 3 ∧ ∃ F2 ms2, Hid (Below wA.heap.size wA wr ∧ Sx 0 F2 wr M dx dc (runX xs t) ms2 ∧ ∀ b, F2 b → F b ∨ w.heap.size ≤ b)) (fun _ i _ => 3 - (intOf i).toNat)
   case atStart => exact ⟨0, rfl, by omega, F, ms, Lib.hid ⟨HBB.out, HSB.out, HF0.out⟩⟩
   case round =>
    obtain ⟨t, rfl, ht, F2, ms2, HK⟩ := hrel
    by_cases hlt : t < 3
    ·have q1 : (0 : Int) ≤ t := by omega
     have q2 : (t : Int) < 3 := by omega
     have hO := HA.out.1.below HK.out.1
     have k0 := hO.ord t hlt
     have hbw := HA.out.2.trans (HK.out.1.mono HA.out.2.size)
     have HH := Lib.hid (drun_any F2 M wr dx dc xs ms2 t hlt HK.out.2.1 H5.out (HT.out wr (But.of_below hbw)) g b1 b2 b3 hO.rules)
     obtain ⟨b, e, hbl, c0, c1, c2, c3, htx⟩ := hO.rules (ordN t) (ord_lt t b1 b2 b3)
     injection e with e
     injection e with e _ _
     subst e
     have hol := ordN_lt t
     generalize (stdRM b1 b2 b3)[ordN t] = m at c0 c1 c2 c3 HH
     generalize ordN t = o at k0 c0 c1 c2 c3 hol
     have q3 : (0 : Int) ≤ o := by omega
     have q4 : (o : Int) < 3 := by omega
     unfold rAgg at HH
     obtain ⟨⟨tg, ns, op, ad⟩, a, mc⟩ := m
     simp only at c0 c1 c2 c3 HH
     generalize ns.length = nl at c1 HH
     clear hO htx
     go_wp2_with fail
     refine HH.out.mono ?_
     rintro e w2 ⟨F3, ms3, rfl, hs3, hf3, hb2⟩
     have HN : Hid (Below wA.heap.size wA w2 ∧ Sx 0 F3 w2 M dx dc (runX xs (t + 1)) ms3 ∧ ∀ b, F3 b → F b ∨ w.heap.size ≤ b) := Lib.hid ⟨HK.out.1.trans (hb2.below (by have := HM.out; omega) HK.out.1.size), hs3, fun b hb => (hf3 b hb).elim (HK.out.2.2 b) fun h => .inr (by have := hbw.size; omega)⟩
     clear hs3 hf3 hb2 HH hbw
     go_wp2
     go_roundw
     case rel => exact ⟨t + 1, by go_num, by omega, F3, ms3, HN⟩
     case measure => simp [intOf]; omega
    ·obtain rfl : t = 3 := by omega
     obtain ⟨wC, hwC⟩ : ∃ wC, wC = wr := ⟨_, rfl⟩
     have HC : Hid (Ord3 wC y g b1 b2 b3 ∧ Below w.heap.size w wC ∧ Sx 0 F2 wC M dx dc (runX xs 3) ms2 ∧ (∀ b, F2 b → F b ∨ w.heap.size ≤ b) ∧ w.heap.size ≤ M ∧ Sx 0 F wC X dx dc xs ms) := Lib.hid (by
      subst hwC
      have hb := HA.out.2.trans (HK.out.1.mono HA.out.2.size)
      exact ⟨HA.out.1.below HK.out.1, hb, HK.out.2.1, HK.out.2.2, by rw [← HM.out]; exact HA.out.2.size, HS.out.below hb⟩)
     rw [← hwC, show ((3 : Nat) : Int) = 3 from rfl]
     clear hwC HK HA HSB HBB HM
     go_wp2
     go_loopw [14, 15, 16, 73] (fun _ _ _ i wr => ∃ t : Nat, i = .int .i64 t ∧ t ≤ 3 ∧ ∃ F4 ms4, Hid (But X wC wr ∧ Sx 0 F4 wr X dx dc (runX xs t) ms4 ∧ ∀ b, F4 b → F b ∨ w.heap.size ≤ b)) (fun _ _ _ i _ => 3 - (intOf i).toNat)
     case atStart => exact ⟨0, rfl, by omega, F, ms, Lib.hid ⟨But.refl _ _, HC.out.2.2.2.2.2, HF0.out⟩⟩
     case round =>
      obtain ⟨t, rfl, ht, F4, ms4, HK⟩ := hrel
      by_cases hlt : t < 3
      ·have q1 : (0 : Int) ≤ t := by omega
       have q2 : (t : Int) < 3 := by omega
       have hO := HC.out.1.but HK.out.1 HY.out (HC.out.2.2.2.2.2).lt.2.2.1
       have k0 := hO.ord t hlt
       have hMX : X ≠ M := by have := HXL.out.1; have := HC.out.2.2.2.2.1; omega
       have hFX : ¬ F2 X := fun hf => (HC.out.2.2.2.1 X hf).elim HXL.out.2.1 fun h => by have := HXL.out.1; omega
       have hGT := (HC.out.2.2.1.but HK.out.1 hMX hFX).gets (runX_names H5.out 3) (plK t) (lastK H5.out hlt)
       have hPT : ∀ W, Below wr.heap.size wr W → ∀ y d, Calls Tryz.prog 24 #[.pointer (some ⟨X, 0, none⟩), .string (outK t).name, argV (outK t).val y d, .int .i64 5] W fun e w' => (∃ E, e = .returned (.int .i64 E)) ∧ ∃ F2 ms2, Sx 0 F2 w' X dx dc (runX xs (t + 1)) ms2 ∧ (∀ b, F2 b → F4 b ∨ W.heap.size ≤ b) ∧ But X W w' := fun W hW y d =>
        dput_any F4 X W dx dc xs ms4 t hlt (HK.out.2.1.below hW) H5.out (HT.out W ((But.of_below HC.out.2.1).and_ (HK.out.1.then_below hW))) y d
       obtain ⟨kd, n, hv⟩ := outK_val t
       have htg := tgtK t b1 b2 b3
       obtain ⟨b, e, hbl, c0, _⟩ := hO.rules (ordN t) (ord_lt t b1 b2 b3)
       injection e with e
       injection e with e _ _
       subst e
       have hol := ordN_lt t
       rw [htg] at c0
       generalize (outK t).name = nm at *
       rw [hv] at hGT hPT
       generalize ordN t = o at k0 c0 hol
       have q3 : (0 : Int) ≤ o := by omega
       have q4 : (o : Int) < 3 := by omega
       unfold GetsAt at hGT
       unfold sVal at hGT
       unfold argV at hPT
       simp only [List.length_nil] at hGT hPT
       have HPT := Lib.hid hPT
       have hg := hGT wr (Below.refl _ _)
       clear hO htg hv hPT hGT hMX hFX
       go_wp2_with fail
       refine hg.mono ?_
       rintro e w2 ⟨z, f, rfl, hb2, _⟩
       have HB2 := Lib.hid hb2
       clear hb2 hg
       have hp := HPT.out _ (HB2.out.trans ((below_one w2 (Obj.cells #[.string nm, .int .i64 kd, .int .i64 n, .string ⟨#[]⟩, .slice z 0 f, .int .i64 5] 39)).mono HB2.out.size)) z f
       have HSZ : Hid (wr.heap.size ≤ (w2.alloc (Obj.cells #[.string nm, .int .i64 kd, .int .i64 n, .string ⟨#[]⟩, .slice z 0 f, .int .i64 5] 39)).heap.size ∧ But X wC (w2.alloc (Obj.cells #[.string nm, .int .i64 kd, .int .i64 n, .string ⟨#[]⟩, .slice z 0 f, .int .i64 5] 39))) := Lib.hid (by
        have hb := HB2.out.trans ((below_one w2 (Obj.cells #[.string nm, .int .i64 kd, .int .i64 n, .string ⟨#[]⟩, .slice z 0 f, .int .i64 5] 39)).mono HB2.out.size)
        exact ⟨hb.size, HK.out.1.then_below hb⟩)
       clear HPT HB2
       go_wp2_with fail
       refine hp.mono ?_
       rintro e w3 ⟨⟨E, rfl⟩, F5, ms5, hs5, hf5, hb5⟩
       have HN : Hid (But X wC w3 ∧ Sx 0 F5 w3 X dx dc (runX xs (t + 1)) ms5 ∧ ∀ b, F5 b → F b ∨ w.heap.size ≤ b) := Lib.hid ⟨HSZ.out.2.and_ hb5, hs5, fun b hb => (hf5 b hb).elim (HK.out.2.2 b) fun h => .inr (by have := HSZ.out.1; have := HK.out.1.2.2.2.1; have := HC.out.2.1.size; omega)⟩
       clear hs5 hf5 hb5 HSZ hp
       go_wp2
       go_roundw
       case rel => exact ⟨t + 1, by go_num, by omega, F5, ms5, HN⟩
       case measure => simp [intOf]; omega
      ·obtain rfl : t = 3 := by omega
       have HE : Hid (RnRes F w X dx dc xs (.returned (.tuple #[.int .i64 0, .string ⟨#[]⟩])) wr) := Lib.hid ⟨F4, ms4, rfl, HK.out.2.1, HK.out.2.2, (But.of_below HC.out.2.1).and_ HK.out.1⟩
       clear HK HC
       go_wp2
       go_ret2
       exact HE.out
end Go.Proofs.YtlcgfdijohgnpaaGreatDoor

namespace Go.Proofs.YtlcgfdijohgnpaaGreatDoor
open Go.ChangeShapes Go.WideShapes Go.ChangeAt Go.RowKit

def three (m : ByteArray) : List KeyV := [⟨m, 0, ⟨#[]⟩, 0, 0, m⟩, ⟨⟨#[110, 101, 116, 46, 112, 111, 114, 116]⟩, 0, ⟨#[]⟩, 0, 0, ⟨#[112]⟩⟩, kZero]

end Go.Proofs.YtlcgfdijohgnpaaGreatDoor

namespace Go.Proofs.YtlcgfdijohgnpaaGreatDoor
open Go.ChangeShapes Go.WideShapes Go.ChangeAt Go.RowKit

set_option maxHeartbeats 1600000 in
set_option maxRecDepth 100000 in
theorem refStandard_any (w : World) : Calls Tryz.prog 19 #[] w fun e w' => e = .returned (.pointer (some ⟨w.heap.size + 1, 0, none⟩)) ∧ SetAt w' (w.heap.size + 1) (some ⟨w.heap.size, 0, none⟩) 16 stdL ∧ Below w.heap.size w w' := by
 have HE : Hid (∀ t u, SetAt ((w.alloc (Obj.cells (flat stdL).toArray t)).alloc (Obj.cells #[.slice (some ⟨w.heap.size, 0, none⟩) 16 16] u)) (w.heap.size + 1) (some ⟨w.heap.size, 0, none⟩) 16 stdL ∧ Below w.heap.size w ((w.alloc (Obj.cells (flat stdL).toArray t)).alloc (Obj.cells #[.slice (some ⟨w.heap.size, 0, none⟩) 16 16] u))) := Lib.hid fun t u => by
  have hb := below_one (w.alloc (Obj.cells (flat stdL).toArray t)) (Obj.cells #[.slice (some ⟨w.heap.size, 0, none⟩) 16 16] u)
  refine ⟨⟨?_, (keys_flat w stdL t).below hb, by decide, (fun e => by cases e), ?_⟩, (below_one w _).trans (hb.mono (below_one w _).size)⟩
  ·have hz : (w.alloc (Obj.cells (flat stdL).toArray t)).heap.size = w.heap.size + 1 := by simp
   rw [← hz, show stdL.length = 16 from rfl]
   simp
  ·have hz : (w.alloc (Obj.cells (flat stdL).toArray t)).heap.size = w.heap.size + 1 := by simp
   rw [← hz]
   simp
 go_enter Tryz.func19, Tryz.ntmps19
 go_wp2
 go_ret
 exact ⟨rfl, HE.out _ _⟩

end Go.Proofs.YtlcgfdijohgnpaaGreatDoor

namespace Go.Proofs.YtlcgfdijohgnpaaGreatDoor
open Go.ChangeShapes Go.WideShapes Go.ChangeAt Go.RowKit

set_option maxRecDepth 100000 in
theorem dwords_any (ts : List ByteArray) (x y : Option Addr) (c d : Nat) (w : World) (ha : TxAt w x ts) (hb : TxAt w y ts) (hn : ts.length ≤ 4611686018427387904) :
    Calls Tryz.prog 15 #[.slice x ts.length c, .slice y ts.length d] w fun e w' => e = .returned (.bool true) ∧ Below w.heap.size w w' := by
  have HA := Lib.hid ha
  have HB := Lib.hid hb
  obtain ⟨n, hn'⟩ : ∃ n, ts.length = n := ⟨_, rfl⟩
  have HN := Lib.hid hn'
  rw [hn'] at hn ⊢
  clear ha hb hn'
  go_enter Tryz.func15, Tryz.ntmps15
  go_wp2
  go_loopw [5] (fun i wr => ∃ t : Nat, i = .int .i64 t ∧ t ≤ n ∧ Hid (Below w.heap.size w wr)) (fun i _ => n - (intOf i).toNat)
  case atStart => exact ⟨0, rfl, by omega, Lib.hid (Below.refl _ _)⟩
  case round =>
    obtain ⟨t, rfl, ht, HK⟩ := hrel
    by_cases hlt : t < n
    · have htx : t < ts.length := by rw [HN.out]; exact hlt
      obtain ⟨a', oa, ea, hal, a0⟩ := (HA.out.below HK.out) t htx
      obtain ⟨b', ob, eb, hbl, b0⟩ := (HB.out.below HK.out) t htx
      subst ea eb
      generalize ts[t] = k at a0 b0
      have q1 : (0 : Int) ≤ t := by omega
      have q2 : (t : Int) < n := by omega
      have HD := Lib.hid (HK.out.trans ((below_drewN wr 1).mono HK.out.size))
      clear htx
      go_wp2
      go_region
      all_goals
        go_wp2
        go_roundw
        case rel => exact ⟨t + 1, by go_num, by omega, HD⟩
        case measure => simp [intOf]; omega
    · have q2 : ¬ (t : Int) < n := by omega
      go_wp2
      go_ret
      exact ⟨rfl, HK.out⟩
set_option maxHeartbeats 3200000 in
set_option maxRecDepth 100000 in
theorem drules_any (la lb : List RuleM) (x y : Option Addr) (c d n : Nat) (w : World) (ha : RulesAt w x la) (hb : RulesAt w y lb) (hna : la.length = n) (hnb : lb.length = n) (hn : n ≤ 1000) (hs : ∀ i (h : i < la.length) (h2 : i < lb.length), la[i].x = lb[i].x) (hl : ∀ m ∈ la, m.x.needs.length ≤ 1000) :
    Calls Tryz.prog 7 #[.slice x n c, .slice y n d] w fun e w' => e = .returned (.bool true) ∧ Below w.heap.size w w' := by
  have HA := Lib.hid ha
  have HB := Lib.hid hb
  have HN := Lib.hid (And.intro hna hnb)
  have HS := Lib.hid hs
  have HL := Lib.hid hl
  clear ha hb hna hnb hs hl
  go_enter Tryz.func7, Tryz.ntmps7
  go_wp2
  go_loopw [5, 6] (fun i _ wr => ∃ t : Nat, i = .int .i64 t ∧ t ≤ n ∧ Hid (Below w.heap.size w wr)) (fun i _ _ => n - (intOf i).toNat)
  case atStart => exact ⟨0, rfl, by omega, Lib.hid (Below.refl _ _)⟩
  case round =>
    obtain ⟨t, rfl, ht, HK⟩ := hrel
    by_cases hlt : t < n
    · have h1 : t < la.length := by rw [HN.out.1]; exact hlt
      have h2 : t < lb.length := by rw [HN.out.2]; exact hlt
      obtain ⟨ba, ea, hal, a0, a1, a2, a3, atx⟩ := (HA.out.below HK.out) t h1
      obtain ⟨bb, eb, hbl, b0, b1, b2, b3, btx⟩ := (HB.out.below HK.out) t h2
      subst ea eb
      have hx := HS.out t h1 h2
      have hll := HL.out _ (List.getElem_mem h1)
      generalize la[t] = m1 at *
      generalize lb[t] = m2 at *
      obtain ⟨⟨tg, ns, op, ad⟩, pa, ca⟩ := m1
      obtain ⟨mx, pb, cb⟩ := m2
      simp only at hx
      subst hx
      simp only at a0 a1 a2 a3 b0 b1 b2 b3 atx btx hll
      have q1 : (0 : Int) ≤ t := by omega
      have q2 : (t : Int) < n := by omega
      have HW : Hid (∀ W, Below wr.heap.size wr W → Calls Tryz.prog 15 #[.slice pa ns.length ca, .slice pb ns.length cb] W fun e w' => e = .returned (.bool true) ∧ Below W.heap.size W w') := Lib.hid fun W hW => dwords_any ns pa pb ca cb W (atx.below hW) (btx.below hW) (by omega)
      have HBD : Hid (Below wr.heap.size wr wr.drew) := Lib.hid (below_drewN wr 1)
      clear atx btx hll h1 h2
      generalize ns.length = nl at a1 b1 HW
      go_wp2
      go_region_held3 (fun W => W.cell? ⟨ba, t * 4, none⟩ = some (.string tg) ∧ W.cell? ⟨ba, t * 4 + 1, none⟩ = some (.slice pa nl ca) ∧ W.cell? ⟨ba, t * 4 + 2, none⟩ = some (.int .i64 op) ∧ W.cell? ⟨ba, t * 4 + 3, none⟩ = some (.int .i64 ad) ∧ W.cell? ⟨bb, t * 4, none⟩ = some (.string tg) ∧ W.cell? ⟨bb, t * 4 + 1, none⟩ = some (.slice pb nl cb) ∧ W.cell? ⟨bb, t * 4 + 2, none⟩ = some (.int .i64 op) ∧ W.cell? ⟨bb, t * 4 + 3, none⟩ = some (.int .i64 ad)) (first | exact ⟨a0, a1, a2, a3, b0, b1, b2, b3⟩ | exact HF2.out) (first
        | (go_at_call 15; (with_reducible refine (HW.out _ HBD.out).mono ?_); rintro e w2 ⟨rfl, hb2⟩
           have hb3 := HBD.out.trans (hb2.mono HBD.out.size)
           have ck : ∀ {b o : Nat} {v : Value}, wr.cell? ⟨b, o, none⟩ = some v → w2.cell? ⟨b, o, none⟩ = some v := fun {b o v} h => (hb3.cell (p := ⟨b, o, none⟩) (lt_of_cell h)).trans h
           have HF2 := Lib.hid (And.intro (ck a0) (And.intro (ck a1) (And.intro (ck a2) (And.intro (ck a3) (And.intro (ck b0) (And.intro (ck b1) (And.intro (ck b2) (ck b3))))))))
           clear ck
           have HD := Lib.hid (HK.out.trans (hb3.mono HK.out.size))
           clear hb2 hb3; dsimp only)
        | fail)
      all_goals
        obtain ⟨g0, g1, g2, g3, i0, i1, i2, i3⟩ := HF2.out
        have HD2 : Hid (∀ q, Below w.heap.size w (w2.drewN q)) := Lib.hid fun q => HD.out.trans ((below_drewN w2 q).mono HD.out.size)
        clear a0 a1 a2 a3 b0 b1 b2 b3 HF2 HD HBD HW HK
        go_wp2
        go_quiet (fail)
        go_wp2
        go_roundw
        case rel => exact ⟨t + 1, by go_num, by omega, Lib.hid (HD2.out _)⟩
        case measure => simp [intOf]; omega
    · have q2 : ¬ (t : Int) < n := by omega
      go_wp2
      go_ret
      exact ⟨rfl, HK.out⟩
structure Laid3 (w : World) : Prop where
  tab : Tab w
  units : Units w
  maxI : MaxI w
theorem Laid3.below {w w' : World} (h : Laid3 w) (hb : Below w.heap.size w w') : Laid3 w' := ⟨h.tab.below hb, h.units.below hb, h.maxI.below hb⟩
def BoRes (w : World) (e : Ending) (w' : World) : Prop := ∃ F X Y dx dc ms, e = .returned (.tuple #[.pointer (some ⟨X, 0, none⟩), .pointer (some ⟨Y, 0, none⟩), .bool true]) ∧ Sx 0 F w' X dx dc (stdL.map dfltS) ms ∧ w.heap.size ≤ X ∧ Below w.heap.size w w'
set_option maxHeartbeats 3200000 in
set_option maxRecDepth 100000 in
theorem dboth_any (w : World) (hL : Laid3 w) :
    Calls Tryz.prog 8 #[.slice none 0 0, .slice none 0 0] w (BoRes w) := by
  have HST := Lib.hid (standard_any w hL.tab hL.units hL.maxI)
  have HMG : Hid (∀ S sx sc W, SetAt W S sx sc stdL → Below w.heap.size w W → Calls Tryz.prog 17 #[.pointer (some ⟨S, 0, none⟩), .slice none 0 0, .slice none 0 0] W (MgRes stdL W)) := Lib.hid fun S sx sc W h hb => lmerge_any stdL S sx sc W h sx_good (hL.below hb).tab (hL.below hb).units (hL.below hb).maxI
  have HRS : Hid (∀ W, Calls Tryz.prog 19 #[] W fun e w' => e = .returned (.pointer (some ⟨W.heap.size + 1, 0, none⟩)) ∧ SetAt w' (W.heap.size + 1) (some ⟨W.heap.size, 0, none⟩) 16 stdL ∧ Below W.heap.size W w') := Lib.hid fun W => refStandard_any W
  have HSM : Hid (∀ S x c W, SetAt W S x c stdL → Calls Tryz.prog 18 #[.pointer (some ⟨S, 0, none⟩), .slice none 0 0, .slice none 0 0] W (MergeRes W stdL)) := Lib.hid fun S x c W h => smerge0_any stdL stdL (List.Perm.refl _) sx_good.sorted S x c W h (by decide) (fun k hk => (List.all_eq_true.1 (show (stdL.all fun k => decide (k.dflt.size ≤ 2147483647)) = true by kernel_rfl) k hk |> of_decide_eq_true))
  clear hL
  go_enter Tryz.func8, Tryz.ntmps8
  go_wp2_with fail
  refine HST.out.mono ?_
  rintro e w1 ⟨S, rfl, hset⟩
  obtain ⟨⟨sx, sc, hs1⟩, hb1, _, _, _⟩ := hset
  have hMG := HMG.out S sx sc w1 hs1 hb1
  have HB1 := Lib.hid hb1
  clear hb1 hs1 HST HMG
  go_wp2_with fail
  refine hMG.mono ?_
  rintro e w2 ⟨dx, dc, hx, hc, ms, rfl, hat, hok, hms, hb2⟩
  have H2 : Hid (∃ F, Sx 0 F w2 w1.heap.size dx dc (stdL.map dfltS) ms ∧ w.heap.size ≤ w1.heap.size ∧ Below w.heap.size w w2) := Lib.hid ⟨_, ⟨⟨hx, hc, hat⟩, hok, hms⟩, HB1.out.size, HB1.out.trans (hb2.mono HB1.out.size)⟩
  clear hat hok hms hb2 hMG HB1
  generalize w1.heap.size = X at *
  go_wp2_with fail
  refine (HRS.out _).mono ?_
  rintro e w3 ⟨rfl, hs3, hb3⟩
  have hSM := HSM.out _ _ _ w3 hs3
  have H3 := Lib.hid hb3
  clear hs3 hb3 HRS HSM
  generalize w2.heap.size + 1 = S2 at *
  go_wp2_with fail
  refine hSM.mono ?_
  rintro e w4 ⟨Y, yk, ck, lv, ns, rfl, hmg, _⟩
  have HE : Hid (BoRes w (.returned (.tuple #[.pointer (some ⟨X, 0, none⟩), .pointer (some ⟨Y, 0, none⟩), .bool true])) w4) := Lib.hid (by
    obtain ⟨F, h1, h2, h3⟩ := H2.out
    have hb := H3.out.trans (hmg.below.mono H3.out.size)
    exact ⟨F, X, Y, dx, dc, ms, rfl, h1.below hb, h2, h3.trans (hb.mono h3.size)⟩)
  clear hmg hSM H2 H3
  go_wp2
  go_ret3
  exact HE.out
end Go.Proofs.YtlcgfdijohgnpaaGreatDoor

namespace Go.Proofs.YtlcgfdijohgnpaaGreatDoor
open Go.ChangeShapes Go.WideShapes Go.ChangeAt Go.RowKit

set_option maxHeartbeats 6400000 in
set_option maxRecDepth 100000 in
theorem dawake_any (w : World) (hL : Laid3 w) :
  Calls Tryz.prog 4 #[] w fun e w' => e = .returned (.bool true) ∧ Below w.heap.size w w' := by
 have HBO := Lib.hid (dboth_any w hL)
 have HLL := Lib.hid hL
 have HST : Hid (∀ W, Calls Tryz.prog 6 #[] W fun e w' => ∃ g c b1 b2 b3, e = .returned (.slice (some ⟨g, 0, none⟩) 3 c) ∧ RulesAt w' (some ⟨g, 0, none⟩) (stdRM b1 b2 b3) ∧ Below W.heap.size W w') := Lib.hid fun W => (dstandard_any W).mono fun _ _ ⟨g, c, b1, b2, b3, h1, h2, h3⟩ => ⟨g, c, b1, b2, b3, h1, h2.rules, h3⟩
 clear hL
 go_enter Tryz.func4, Tryz.ntmps4
 go_wp2_with fail
 refine HBO.out.mono ?_
 rintro e w1 ⟨F, X, Y, dx, dc, ms, rfl, hsx, hX, hb1⟩
 have H1 := Lib.hid (And.intro hsx (And.intro hX hb1))
 clear hsx hX hb1 HBO
 go_wp2_with fail
 refine (HST.out w1).mono ?_
 rintro e w2 ⟨g, c, b1, b2, b3, rfl, hr2, hb2⟩
 have HRN := Lib.hid (dRun_any w F X w2 dx dc _ ms (H1.out.1.below hb2) five_dflt HLL.out.tab (H1.out.2.2.trans (hb2.mono H1.out.2.2.size)) H1.out.2.1 g c b1 b2 b3 hr2)
 have H2 := Lib.hid (And.intro H1.out.2.1 (H1.out.2.2.trans (hb2.mono H1.out.2.2.size)))
 clear hr2 hb2 H1
 go_wp2_with fail
 refine HRN.out.mono ?_
 rintro e w3 ⟨F2, ms2, rfl, hs3, _, hb3⟩
 have HB3 : Hid (Below w.heap.size w w3) := Lib.hid (H2.out.2.trans (hb3.below H2.out.1 H2.out.2.size))
 have hg1 := (hs3.gets (runX_names five_dflt 3) (plK 0) (lastK five_dflt (k := 0) (by decide))) w3 (Below.refl _ _)
 have hg2 := hs3.gets (runX_names five_dflt 3) (plK 1) (lastK five_dflt (k := 1) (by decide))
 have HG2 : Hid (∀ W, Below w3.heap.size w3 W → Calls Tryz.prog 10 #[.pointer (some ⟨X, 0, none⟩), .string ⟨#[98, 111, 111, 116, 46, 108, 105, 109, 105, 116]⟩] W fun e w' => ∃ y d, e = .returned (.tuple #[.agg #[.string ⟨#[98, 111, 111, 116, 46, 108, 105, 109, 105, 116]⟩, .int .i64 2, .int .i64 48, .string ⟨#[]⟩, .slice y 0 d, .int .i64 5], .bool true]) ∧ Below W.heap.size W w') := Lib.hid fun W hW => (hg2 W hW).mono fun _ _ ⟨y, d, h1, h2, _⟩ => ⟨y, d, h1, h2⟩
 have HG1 : Hid (Calls Tryz.prog 10 #[.pointer (some ⟨X, 0, none⟩), .string ⟨#[98, 111, 111, 116, 46, 119, 111, 114, 107, 101, 114, 115]⟩] w3 fun e w' => ∃ y d, e = .returned (.tuple #[.agg #[.string ⟨#[98, 111, 111, 116, 46, 119, 111, 114, 107, 101, 114, 115]⟩, .int .i64 2, .int .i64 3, .string ⟨#[]⟩, .slice y 0 d, .int .i64 5], .bool true]) ∧ Below w3.heap.size w3 w') := Lib.hid (hg1.mono fun _ _ ⟨y, d, h1, h2, _⟩ => ⟨y, d, h1, h2⟩)
 clear hs3 hb3 hg1 hg2 HRN H2
 go_wp2_with fail
 refine HG1.out.mono ?_
 rintro e w4 ⟨y1, d1, rfl, hb4⟩
 have HV1 : Hid (∀ W, W = w4.alloc (Obj.cells #[.string ⟨#[98, 111, 111, 116, 46, 119, 111, 114, 107, 101, 114, 115]⟩, .int .i64 2, .int .i64 3, .string ⟨#[]⟩, .slice y1 0 d1, .int .i64 5] 39) → Below w3.heap.size w3 W ∧ W.cell? ⟨w4.heap.size, 2, none⟩ = some (.int .i64 3) ∧ W.cell? ⟨w4.heap.size, 5, none⟩ = some (.int .i64 5)) := Lib.hid fun W hW => by
  subst hW
  exact ⟨hb4.trans ((below_one w4 _).mono hb4.size), by simp, by simp⟩
 have hg := HG2.out _ (HV1.out _ rfl).1
 clear hb4 HG1 HG2
 go_wp2_with fail
 refine hg.mono ?_
 rintro e w5 ⟨y2, d2, rfl, hb5⟩
 have HV2 : Hid (∀ W, W = w5.alloc (Obj.cells #[.string ⟨#[98, 111, 111, 116, 46, 108, 105, 109, 105, 116]⟩, .int .i64 2, .int .i64 48, .string ⟨#[]⟩, .slice y2 0 d2, .int .i64 5] 39) → Below w.heap.size w W ∧ W.cell? ⟨w4.heap.size, 2, none⟩ = some (.int .i64 3) ∧ W.cell? ⟨w4.heap.size, 5, none⟩ = some (.int .i64 5) ∧ W.cell? ⟨w5.heap.size, 2, none⟩ = some (.int .i64 48)) := Lib.hid fun W hW => by
  obtain ⟨h1, h2, h3⟩ := HV1.out _ rfl
  subst hW
  have hbw := hb5.trans ((below_one w5 (Obj.cells #[.string ⟨#[98, 111, 111, 116, 46, 108, 105, 109, 105, 116]⟩, .int .i64 2, .int .i64 48, .string ⟨#[]⟩, .slice y2 0 d2, .int .i64 5] 39)).mono hb5.size)
  have hb3 := h1.trans (hbw.mono h1.size)
  exact ⟨HB3.out.trans (hb3.mono HB3.out.size), (hbw.cell (p := ⟨w4.heap.size, 2, none⟩) (lt_of_cell h2)).trans h2, (hbw.cell (p := ⟨w4.heap.size, 5, none⟩) (lt_of_cell h3)).trans h3, by simp⟩
 clear hb5 hg HV1
 go_wp2_with fail
 refine (HST.out _).mono ?_
 rintro e w6 ⟨g2, c2, e1, e2, e3, rfl, hr6, hb6⟩
 have H6 : Hid (Below w.heap.size w w6 ∧ w6.cell? ⟨w4.heap.size, 2, none⟩ = some (.int .i64 3) ∧ w6.cell? ⟨w4.heap.size, 5, none⟩ = some (.int .i64 5) ∧ w6.cell? ⟨w5.heap.size, 2, none⟩ = some (.int .i64 48)) := Lib.hid (by
  obtain ⟨h0, h1, h2, h3⟩ := HV2.out _ rfl
  exact ⟨h0.trans (hb6.mono h0.size), (hb6.cell (p := ⟨w4.heap.size, 2, none⟩) (lt_of_cell h1)).trans h1, (hb6.cell (p := ⟨w4.heap.size, 5, none⟩) (lt_of_cell h2)).trans h2, (hb6.cell (p := ⟨w5.heap.size, 2, none⟩) (lt_of_cell h3)).trans h3⟩)
 have HOR := Lib.hid (dorder_any w6 g2 c2 e1 e2 e3 hr6 (HLL.out.below H6.out.1).tab)
 clear hr6 hb6 HV2 HST
 generalize w4.heap.size = P at *
 generalize w5.heap.size = Q at *
 go_wp2_with fail
 refine HOR.out.mono ?_
 rintro e w7 ⟨y, d, rfl, hr7, hb7⟩
 obtain ⟨h0, h1, h2, h3⟩ := H6.out
 have HE := Lib.hid (h0.trans (hb7.mono h0.size))
 have v1 := (hb7.cell (p := ⟨P, 2, none⟩) (lt_of_cell h1)).trans h1
 have v2 := (hb7.cell (p := ⟨P, 5, none⟩) (lt_of_cell h2)).trans h2
 have v3 := (hb7.cell (p := ⟨Q, 2, none⟩) (lt_of_cell h3)).trans h3
 have o0 : w7.cell? ⟨y, 0, none⟩ = some (.int .i64 1) := hr7.cellAt 0 (by decide)
 have o1 : w7.cell? ⟨y, 1, none⟩ = some (.int .i64 0) := hr7.cellAt 1 (by decide)
 have o2 : w7.cell? ⟨y, 2, none⟩ = some (.int .i64 2) := hr7.cellAt 2 (by decide)
 clear h0 h1 h2 h3 hr7 hb7 H6 HOR
 go_wp2
 go_ret
 exact ⟨rfl, HE.out⟩
end Go.Proofs.YtlcgfdijohgnpaaGreatDoor

namespace Go.Proofs.YtlcgfdijohgnpaaGreatDoor
open Go.ChangeShapes Go.WideShapes Go.ChangeAt Go.RowKit

structure Mid (N M : Nat) (w w' : World) : Prop where
 os : w'.os = w.os
 tape : w'.tape = w.tape
 output : w'.output = w.output
 size : w.heap.size ≤ w'.heap.size
 block : ∀ k, k < w.heap.size → (k < N ∨ M ≤ k) → w'.heap[k]? = w.heap[k]?
theorem Mid.refl_ (N M : Nat) (w : World) : Mid N M w w := ⟨rfl, rfl, rfl, Nat.le_refl _, fun _ _ _ => rfl⟩
theorem Mid.set {N M : Nat} {w w' : World} (h : Mid N M w w') {b : Nat} (hb : N ≤ b ∧ b < M) (i : Nat) (u : Value) : Mid N M w (w'.setCell ⟨b, i, none⟩ u) :=
 ⟨h.os, h.tape, h.output, by have := h.size; simpa using this, fun k hk hs => (Below.heap_setCell _ _ _ _ (show k ≠ b by omega)).trans (h.block k hk hs)⟩
theorem Mid.grown {N M : Nat} {w w' w2 : World} (h : Mid N M w w') {g : Nat} (hg : w'.grownBy w2 (some g)) (hb : N ≤ g ∧ g < M) : Mid N M w w2 :=
 ⟨hg.os.trans h.os, hg.tape.trans h.tape, hg.output.trans h.output, Nat.le_trans h.size hg.size, fun k hk hs => (hg.block k (Nat.lt_of_lt_of_le hk h.size) (fun e => by injection e with e; omega)).trans (h.block k hk hs)⟩
theorem Mid.then_below {N M : Nat} {w w' w2 : World} (h : Mid N M w w') (hb : Below w'.heap.size w' w2) : Mid N M w w2 :=
 ⟨hb.os.trans h.os, hb.tape.trans h.tape, hb.output.trans h.output, Nat.le_trans h.size hb.size, fun k hk hs => (hb.block k (Nat.lt_of_lt_of_le hk h.size)).trans (h.block k hk hs)⟩
theorem Mid.below {N M B : Nat} {w w' : World} (h : Mid N M w w') (hB : B ≤ N) (hw : B ≤ w.heap.size) : Below B w w' := ⟨h.os, h.tape, h.output, h.size, fun k hk => h.block k (by omega) (.inl (by omega))⟩
theorem StdAt.mid {N M P Q : Nat} {w w' : World} {g c b1 b2 b3 : Nat} (h : StdAt N M w g c b1 b2 b3) (hm : Mid P Q w w') (hs : M ≤ P ∨ Q ≤ N) : StdAt N M w' g c b1 b2 b3 := by
 have hk : ∀ k, k < w.heap.size → N ≤ k ∧ k < M → w'.heap[k]? = w.heap[k]? := fun k hk hb => hm.block k hk (by omega)
 refine ⟨?_, (hk _ (heap_lt h.n1) h.l1).trans h.n1, (hk _ (heap_lt h.n2) h.l2).trans h.n2, (hk _ (heap_lt h.n3) h.l3).trans h.n3, h.l1, h.l2, h.l3, h.lg⟩
 have hg := hk g (h.row.lt g rfl).2 h.lg
 rcases h.row.2 with ⟨h1, _⟩ | ⟨g', cap, cur, h1, h2, h3, h4⟩
 ·cases h1
 ·injection h1 with h1 h5 h6
  injection h1 with h1
  injection h1 with h1 _ _
  subst h1
  exact ⟨h.row.1, .inr ⟨g, cap, cur, by rw [h6], h2, hg.trans h3, h4⟩⟩
def oRow : List Value := [.string ⟨#[111, 118, 101, 114]⟩, .slice none 0 0, .int .i64 0, .int .i64 0]
theorem cells_one4' (s : ByteArray) : ∀ u ∈ ([.string s, .slice none 0 0, .int .i64 0, .int .i64 0] : List Value), u.oneCell' = true := by
 intro u hu
 simp only [List.mem_cons, List.not_mem_nil, or_false] at hu
 rcases hu with rfl | rfl | rfl | rfl <;> rfl
def ovRow (b1 b2 b3 : Nat) : Nat → List Value
 | 0 => stdRow b1 b2 b3
 | 1 => oRow ++ (sRule ⟨#[98, 111, 111, 116, 46, 119, 111, 114, 107, 101, 114, 115]⟩ b2 6 1 ++ sRule ⟨#[115, 116, 111, 114, 101, 46, 112, 97, 103, 101]⟩ b3 5 1024)
 | 2 => (oRow ++ oRow) ++ sRule ⟨#[115, 116, 111, 114, 101, 46, 112, 97, 103, 101]⟩ b3 5 1024
 | _ => oRow ++ oRow ++ oRow
def NbAt (w : World) (b : Nat) : Prop := ∃ u, w.heap[b]? = some (Obj.cells #[u] 9)
theorem NbAt.set {w : World} {b : Nat} (h : NbAt w b) (c : Nat) (v : Value) : NbAt (w.setCell ⟨c, 0, none⟩ v) b := by
 obtain ⟨u, hu⟩ := h
 by_cases e : b = c
 ·subst e
  exact ⟨v, by simp [World.setCell, Array.getElem?_modify, hu]⟩
 ·exact ⟨u, (Below.heap_setCell _ _ _ _ e).trans hu⟩
theorem NbAt.off {w : World} {b : Nat} (h : NbAt w b) {g : Nat} (hne : b ≠ g) (i : Nat) (v : Value) : NbAt (w.setCell ⟨g, i, none⟩ v) b := by
 obtain ⟨u, hu⟩ := h
 exact ⟨u, (Below.heap_setCell _ _ _ _ hne).trans hu⟩
theorem NbAt.cells {w : World} {b : Nat} (h : NbAt w b) : (∃ u, w.cell? ⟨b, 0, none⟩ = some u) ∧ w.frozen? ⟨b, 0, none⟩ = false := by
 obtain ⟨u, hu⟩ := h
 exact ⟨⟨u, by rw [cell_of_row w b 0 _ _ _ hu]; rfl⟩, by simp [World.frozen?, hu]⟩
structure OvAt (N M : Nat) (w0 w : World) (g c b1 b2 b3 t : Nat) : Prop where
 mid : Mid N M w0 w
 row : w.ownsRow N 28 4 (.slice (some ⟨g, 0, none⟩) 3 c) 3 (ovRow b1 b2 b3 t)
 n1 : NbAt w b1
 n2 : NbAt w b2
 n3 : NbAt w b3
theorem ov_start {N M : Nat} {w0 w : World} {g c b1 b2 b3 : Nat} (h : StdAt N M w g c b1 b2 b3) (hm : Mid N M w0 w) : OvAt N M w0 w g c b1 b2 b3 0 := ⟨hm, h.row, ⟨_, h.n1⟩, ⟨_, h.n2⟩, ⟨_, h.n3⟩⟩
section
variable {N M : Nat} {w0 w : World} {g c b1 b2 b3 t : Nat}
theorem nb_ne {b : Nat} (h : OvAt N M w0 w g c b1 b2 b3 t) (hb : NbAt w b) : b ≠ g := fun e => by
 obtain ⟨u, hu⟩ := hb
 exact own_ne h.row hu (by decide) (by rw [e]; rfl)
theorem OvAt.need (h : OvAt N M w0 w g c b1 b2 b3 t) {b : Nat} (hb : NbAt w b) (hl : N ≤ b ∧ b < M) (v : Value) : OvAt N M w0 (w.setCell ⟨b, 0, none⟩ v) g c b1 b2 b3 t := by
 have hne := nb_ne h hb
 refine ⟨h.mid.set hl 0 v, ?_, h.n1.set b v, h.n2.set b v, h.n3.set b v⟩
 exact h.row.kept (row := some b) ⟨rfl, rfl, rfl, by simp, fun k hk hn => Below.heap_setCell _ _ _ _ (fun e => hn (by rw [e]))⟩ (.inr fun e => by injection e with e; exact hne e.symm)
theorem OvAt.over (h : OvAt N M w0 w g c b1 b2 b3 t) (hg : N ≤ g ∧ g < M) (j : Nat) (hx : ((((ovRow b1 b2 b3 t).set j (.string ⟨#[111, 118, 101, 114]⟩)).set (j + 1) (.slice none 0 0)).set (j + 2) (.int .i64 0)).set (j + 3) (.int .i64 0) = ovRow b1 b2 b3 (t + 1)) :
  OvAt N M w0 ((((w.setCell ⟨g, j, none⟩ (.string ⟨#[111, 118, 101, 114]⟩)).setCell ⟨g, j + 1, none⟩ (.slice none 0 0)).setCell ⟨g, j + 2, none⟩ (.int .i64 0)).setCell ⟨g, j + 3, none⟩ (.int .i64 0)) g c b1 b2 b3 (t + 1) := by
 have r1 := (h.row.stored j (.string ⟨#[111, 118, 101, 114]⟩)).1
 have r2 := (r1.stored (j + 1) (.slice none 0 0)).1
 have r3 := (r2.stored (j + 2) (.int .i64 0)).1
 have r4 := (r3.stored (j + 3) (.int .i64 0)).1
 rw [hx] at r4
 have k1 := nb_ne h h.n1
 have k2 := nb_ne h h.n2
 have k3 := nb_ne h h.n3
 exact ⟨((((h.mid.set hg _ _).set hg _ _).set hg _ _).set hg _ _), r4, (((h.n1.off k1 _ _).off k1 _ _).off k1 _ _).off k1 _ _, (((h.n2.off k2 _ _).off k2 _ _).off k2 _ _).off k2 _ _, (((h.n3.off k3 _ _).off k3 _ _).off k3 _ _).off k3 _ _⟩
end
set_option maxHeartbeats 6400000 in
set_option maxRecDepth 100000 in
theorem deriveStands_any (w : World) (hL : Laid3 w) :
  Calls Tryz.prog 3 #[] w fun e w' => e = .returned (.bool true) ∧ Below w.heap.size w w' := by
 have HAW := Lib.hid (dawake_any w hL)
 have HRF : Hid (∀ W, Calls Tryz.prog 5 #[] W fun e w' => ∃ g c b1 b2 b3, e = .returned (.slice (some ⟨g, 0, none⟩) 3 c) ∧ StdAt W.heap.size w'.heap.size w' g c b1 b2 b3 ∧ Below W.heap.size W w') := Lib.hid drefStandard_any
 have HST : Hid (∀ W, Calls Tryz.prog 6 #[] W fun e w' => ∃ g c b1 b2 b3, e = .returned (.slice (some ⟨g, 0, none⟩) 3 c) ∧ StdAt W.heap.size w'.heap.size w' g c b1 b2 b3 ∧ Below W.heap.size W w') := Lib.hid dstandard_any
 have HRU : Hid (∀ W ga ca a1 a2 a3 gb cb e1 e2 e3 N M P Q, StdAt N M W ga ca a1 a2 a3 → StdAt P Q W gb cb e1 e2 e3 → Calls Tryz.prog 7 #[.slice (some ⟨ga, 0, none⟩) 3 ca, .slice (some ⟨gb, 0, none⟩) 3 cb] W fun e w' => e = .returned (.bool true) ∧ Below W.heap.size W w') := Lib.hid fun W ga ca a1 a2 a3 gb cb e1 e2 e3 N M P Q h1 h2 =>
  drules_any _ _ _ _ ca cb 3 W h1.rules h2.rules rfl rfl (by decide) (fun i h h2 => by
   have h3 : i = 0 ∨ i = 1 ∨ i = 2 := by simp [stdRM] at h; omega
   rcases h3 with rfl | rfl | rfl <;> rfl) (fun m hm => by
   simp only [stdRM, List.mem_cons, List.not_mem_nil, or_false] at hm
   rcases hm with rfl | rfl | rfl <;> exact Nat.le_of_ble_eq_true rfl)
 clear hL
 go_enter Tryz.func3, Tryz.ntmps3
 go_wp2_with fail
 refine HAW.out.mono ?_
 rintro e w1 ⟨rfl, hb1⟩
 have HB1 := Lib.hid hb1
 clear hb1 HAW
 go_wp2_with fail
 refine (HRF.out w1).mono ?_
 rintro e w2 ⟨gw, cw, d1, d2, d3, rfl, hw2, hb2⟩
 have H2 : Hid (StdAt w1.heap.size w2.heap.size w2 gw cw d1 d2 d3 ∧ Below w.heap.size w w2) := Lib.hid ⟨hw2, HB1.out.trans (hb2.mono HB1.out.size)⟩
 clear hw2 hb2 HB1 HRF
 go_wp2_with fail
 refine (HST.out w2).mono ?_
 rintro e w3 ⟨ga, ca, b1, b2, b3, rfl, ha3, hb3⟩
 have H3 : Hid (StdAt w1.heap.size w2.heap.size w3 gw cw d1 d2 d3 ∧ Below w.heap.size w w3 ∧ StdAt w2.heap.size w3.heap.size w3 ga ca b1 b2 b3 ∧ w.heap.size ≤ w2.heap.size) := Lib.hid ⟨H2.out.1.below hb3, H2.out.2.trans (hb3.mono H2.out.2.size), ha3, H2.out.2.size⟩
 clear ha3 hb3 H2
 go_wp2_with fail
 refine (HST.out w3).mono ?_
 rintro e w4 ⟨gb, cb, e1, e2, e3, rfl, hb4', hb4⟩
 obtain ⟨Na, hNa⟩ : ∃ Na, w2.heap.size = Na := ⟨_, rfl⟩
 obtain ⟨Ma, hMa⟩ : ∃ Ma, w3.heap.size = Ma := ⟨_, rfl⟩
 have H4 : Hid (StdAt w1.heap.size Na w4 gw cw d1 d2 d3 ∧ Below w.heap.size w w4 ∧ StdAt Na Ma w4 ga ca b1 b2 b3 ∧ StdAt Ma w4.heap.size w4 gb cb e1 e2 e3 ∧ w.heap.size ≤ Na) := Lib.hid (by
  have h := H3.out
  rw [hNa, hMa] at h
  rw [hMa] at hb4'
  exact ⟨h.1.below hb4, h.2.1.trans (hb4.mono h.2.1.size), h.2.2.1.below hb4, hb4', h.2.2.2⟩)
 have hr1 := HRU.out w4 _ _ _ _ _ _ _ _ _ _ _ _ _ _ H4.out.2.2.1 H4.out.1
 clear hNa hMa hb4' hb4 H3
 go_wp2_with fail
 refine hr1.mono ?_
 rintro e w5 ⟨rfl, hb5⟩
 have H5 : Hid (StdAt w1.heap.size Na w5 gw cw d1 d2 d3 ∧ Below w.heap.size w w5 ∧ StdAt Na Ma w5 ga ca b1 b2 b3 ∧ StdAt Ma w4.heap.size w5 gb cb e1 e2 e3 ∧ w.heap.size ≤ Na) := Lib.hid ⟨H4.out.1.below hb5, H4.out.2.1.trans (hb5.mono H4.out.2.1.size), H4.out.2.2.1.below hb5, H4.out.2.2.2.1.below hb5, H4.out.2.2.2.2⟩
 have hr2 := HRU.out w5 _ _ _ _ _ _ _ _ _ _ _ _ _ _ H5.out.2.2.2.1 H5.out.1
 clear hb5 H4 hr1
 generalize w4.heap.size = Mb at *
 go_wp2_with fail
 refine hr2.mono ?_
 rintro e wT ⟨rfl, hb6⟩
 have H6 : Hid (StdAt w1.heap.size Na wT gw cw d1 d2 d3 ∧ Below w.heap.size w wT ∧ StdAt Na Ma wT ga ca b1 b2 b3 ∧ StdAt Ma Mb wT gb cb e1 e2 e3 ∧ w.heap.size ≤ Na) := Lib.hid ⟨H5.out.1.below hb6, H5.out.2.1.trans (hb6.mono H5.out.2.1.size), H5.out.2.2.1.below hb6, H5.out.2.2.2.1.below hb6, H5.out.2.2.2.2⟩
 have HLM : Hid ((Na ≤ b1 ∧ b1 < Ma) ∧ (Na ≤ b2 ∧ b2 < Ma) ∧ (Na ≤ b3 ∧ b3 < Ma) ∧ (Na ≤ ga ∧ ga < Ma)) := Lib.hid ⟨H6.out.2.2.1.l1, H6.out.2.2.1.l2, H6.out.2.2.1.l3, H6.out.2.2.1.lg⟩
 have HO0 := Lib.hid (ov_start H6.out.2.2.1 (Mid.refl_ Na Ma wT))
 clear hb6 H5 hr2
 go_wp2
 go_loopw [7, 8] (fun i _ wr => ∃ t : Nat, i = .int .i64 t ∧ t ≤ 3 ∧ Hid (OvAt Na Ma wT wr ga ca b1 b2 b3 t)) (fun i _ _ => 3 - (intOf i).toNat)
 case atStart => exact ⟨0, rfl, by omega, HO0⟩
 case round =>
  obtain ⟨t, rfl, ht, HK⟩ := hrel
  have h4 : t = 0 ∨ t = 1 ∨ t = 2 ∨ t = 3 := by omega
  rcases h4 with rfl | rfl | rfl | rfl
  ·obtain ⟨⟨u, hu⟩, hz⟩ := HK.out.n1.cells
   have r1 : wr.cell? ⟨ga, 1, none⟩ = some (.slice (some ⟨b1, 0, none⟩) 1 1) := HK.out.row.cellAt 1 (by decide)
   obtain ⟨wo, hwo⟩ : ∃ wo, wo = wr := ⟨_, rfl⟩
   have HW1 : Hid (OvAt Na Ma wT (wo.setCell ⟨b1, 0, none⟩ (.string ⟨#[111, 118, 101, 114]⟩)) ga ca b1 b2 b3 0) := Lib.hid (by rw [hwo]; exact HK.out.need HK.out.n1 HLM.out.1 _)
   rw [← hwo] at r1 hu hz ⊢
   clear hwo HK
   go_wp2
   go_loopw [8] (fun k wi => (k = .int .i64 0 ∧ wi = wo) ∨ (k = .int .i64 1 ∧ wi = wo.setCell ⟨b1, 0, none⟩ (.string ⟨#[111, 118, 101, 114]⟩))) (fun k _ => 1 - (intOf k).toNat)
   case atStart => exact .inl ⟨rfl, rfl⟩
   case round =>
    rcases hrel with ⟨rfl, rfl⟩ | ⟨rfl, hwi⟩
    ·go_wp2
     exact ⟨.inr (by simp), by simp [intOf]⟩
    ·rw [← hwi] at HW1
     clear hwi r1 hu hz
     obtain ⟨W1, hW1⟩ : ∃ W1, W1 = wr := ⟨_, rfl⟩
     rw [← hW1] at HW1 ⊢
     clear hW1
     have s0 : W1.cell? ⟨ga, 0, none⟩ = some (.string ⟨#[98, 111, 111, 116, 46, 108, 105, 109, 105, 116]⟩) := HW1.out.row.cellAt 0 (by decide)
     have s1 : W1.cell? ⟨ga, 1, none⟩ = some (.slice (some ⟨b1, 0, none⟩) 1 1) := HW1.out.row.cellAt 1 (by decide)
     have s2 : W1.cell? ⟨ga, 2, none⟩ = some (.int .i64 4) := HW1.out.row.cellAt 2 (by decide)
     have s3 : W1.cell? ⟨ga, 3, none⟩ = some (.int .i64 16) := HW1.out.row.cellAt 3 (by decide)
     have z0 := HW1.out.row.frozenAt 0
     have z1 := HW1.out.row.frozenAt 1
     have z2 := HW1.out.row.frozenAt 2
     have z3 := HW1.out.row.frozenAt 3
     have HN : Hid (OvAt Na Ma wT ((((W1.setCell ⟨ga, 0, none⟩ (.string ⟨#[111, 118, 101, 114]⟩)).setCell ⟨ga, 1, none⟩ (.slice none 0 0)).setCell ⟨ga, 2, none⟩ (.int .i64 0)).setCell ⟨ga, 3, none⟩ (.int .i64 0)) ga ca b1 b2 b3 1) := Lib.hid (HW1.out.over HLM.out.2.2.2 0 rfl)
     go_wp2
     exact ⟨⟨1, rfl, by omega, HN⟩, by simp [intOf]⟩
  ·obtain ⟨⟨u, hu⟩, hz⟩ := HK.out.n2.cells
   have r1 : wr.cell? ⟨ga, 5, none⟩ = some (.slice (some ⟨b2, 0, none⟩) 1 1) := HK.out.row.cellAt 5 (by decide)
   obtain ⟨wo, hwo⟩ : ∃ wo, wo = wr := ⟨_, rfl⟩
   have HW1 : Hid (OvAt Na Ma wT (wo.setCell ⟨b2, 0, none⟩ (.string ⟨#[111, 118, 101, 114]⟩)) ga ca b1 b2 b3 1) := Lib.hid (by rw [hwo]; exact HK.out.need HK.out.n2 HLM.out.2.1 _)
   rw [← hwo] at r1 hu hz ⊢
   clear hwo HK
   go_wp2
   go_loopw [8] (fun k wi => (k = .int .i64 0 ∧ wi = wo) ∨ (k = .int .i64 1 ∧ wi = wo.setCell ⟨b2, 0, none⟩ (.string ⟨#[111, 118, 101, 114]⟩))) (fun k _ => 1 - (intOf k).toNat)
   case atStart => exact .inl ⟨rfl, rfl⟩
   case round =>
    rcases hrel with ⟨rfl, rfl⟩ | ⟨rfl, hwi⟩
    ·go_wp2
     exact ⟨.inr (by simp), by simp [intOf]⟩
    ·rw [← hwi] at HW1
     clear hwi r1 hu hz
     obtain ⟨W1, hW1⟩ : ∃ W1, W1 = wr := ⟨_, rfl⟩
     rw [← hW1] at HW1 ⊢
     clear hW1
     have s0 : W1.cell? ⟨ga, 4, none⟩ = some (.string ⟨#[98, 111, 111, 116, 46, 119, 111, 114, 107, 101, 114, 115]⟩) := HW1.out.row.cellAt 4 (by decide)
     have s1 : W1.cell? ⟨ga, 5, none⟩ = some (.slice (some ⟨b2, 0, none⟩) 1 1) := HW1.out.row.cellAt 5 (by decide)
     have s2 : W1.cell? ⟨ga, 6, none⟩ = some (.int .i64 6) := HW1.out.row.cellAt 6 (by decide)
     have s3 : W1.cell? ⟨ga, 7, none⟩ = some (.int .i64 1) := HW1.out.row.cellAt 7 (by decide)
     have z0 := HW1.out.row.frozenAt 4
     have z1 := HW1.out.row.frozenAt 5
     have z2 := HW1.out.row.frozenAt 6
     have z3 := HW1.out.row.frozenAt 7
     have HN : Hid (OvAt Na Ma wT ((((W1.setCell ⟨ga, 4, none⟩ (.string ⟨#[111, 118, 101, 114]⟩)).setCell ⟨ga, 5, none⟩ (.slice none 0 0)).setCell ⟨ga, 6, none⟩ (.int .i64 0)).setCell ⟨ga, 7, none⟩ (.int .i64 0)) ga ca b1 b2 b3 2) := Lib.hid (HW1.out.over HLM.out.2.2.2 4 rfl)
     go_wp2
     exact ⟨⟨2, rfl, by omega, HN⟩, by simp [intOf]⟩
  ·obtain ⟨⟨u, hu⟩, hz⟩ := HK.out.n3.cells
   have r1 : wr.cell? ⟨ga, 9, none⟩ = some (.slice (some ⟨b3, 0, none⟩) 1 1) := HK.out.row.cellAt 9 (by decide)
   obtain ⟨wo, hwo⟩ : ∃ wo, wo = wr := ⟨_, rfl⟩
   have HW1 : Hid (OvAt Na Ma wT (wo.setCell ⟨b3, 0, none⟩ (.string ⟨#[111, 118, 101, 114]⟩)) ga ca b1 b2 b3 2) := Lib.hid (by rw [hwo]; exact HK.out.need HK.out.n3 HLM.out.2.2.1 _)
   rw [← hwo] at r1 hu hz ⊢
   clear hwo HK
   go_wp2
   go_loopw [8] (fun k wi => (k = .int .i64 0 ∧ wi = wo) ∨ (k = .int .i64 1 ∧ wi = wo.setCell ⟨b3, 0, none⟩ (.string ⟨#[111, 118, 101, 114]⟩))) (fun k _ => 1 - (intOf k).toNat)
   case atStart => exact .inl ⟨rfl, rfl⟩
   case round =>
    rcases hrel with ⟨rfl, rfl⟩ | ⟨rfl, hwi⟩
    ·go_wp2
     exact ⟨.inr (by simp), by simp [intOf]⟩
    ·rw [← hwi] at HW1
     clear hwi r1 hu hz
     obtain ⟨W1, hW1⟩ : ∃ W1, W1 = wr := ⟨_, rfl⟩
     rw [← hW1] at HW1 ⊢
     clear hW1
     have s0 : W1.cell? ⟨ga, 8, none⟩ = some (.string ⟨#[115, 116, 111, 114, 101, 46, 112, 97, 103, 101]⟩) := HW1.out.row.cellAt 8 (by decide)
     have s1 : W1.cell? ⟨ga, 9, none⟩ = some (.slice (some ⟨b3, 0, none⟩) 1 1) := HW1.out.row.cellAt 9 (by decide)
     have s2 : W1.cell? ⟨ga, 10, none⟩ = some (.int .i64 5) := HW1.out.row.cellAt 10 (by decide)
     have s3 : W1.cell? ⟨ga, 11, none⟩ = some (.int .i64 1024) := HW1.out.row.cellAt 11 (by decide)
     have z0 := HW1.out.row.frozenAt 8
     have z1 := HW1.out.row.frozenAt 9
     have z2 := HW1.out.row.frozenAt 10
     have z3 := HW1.out.row.frozenAt 11
     have HN : Hid (OvAt Na Ma wT ((((W1.setCell ⟨ga, 8, none⟩ (.string ⟨#[111, 118, 101, 114]⟩)).setCell ⟨ga, 9, none⟩ (.slice none 0 0)).setCell ⟨ga, 10, none⟩ (.int .i64 0)).setCell ⟨ga, 11, none⟩ (.int .i64 0)) ga ca b1 b2 b3 3) := Lib.hid (HW1.out.over HLM.out.2.2.2 8 rfl)
     go_wp2
     exact ⟨⟨3, rfl, by omega, HN⟩, by simp [intOf]⟩
  ·rw [show ((3 : Nat) : Int) = 3 from rfl]
   have HAL : Hid (∀ W, W = wr.alloc (Obj.cells #[.string ⟨#[109, 111, 114, 101]⟩, .slice none 0 0, .int .i64 0, .int .i64 0] 28) → ∀ j u, ([.string ⟨#[109, 111, 114, 101]⟩, .slice none 0 0, .int .i64 0, .int .i64 0] : List Value)[j]? = some u → W.cell? ⟨wr.heap.size, j, none⟩ = some u) := Lib.hid fun W hW j u hu => by
    subst hW
    rw [cell_of_row _ wr.heap.size j _ _ _ (heap_alloc_new wr _), ← List.getElem?_toArray] at *
    exact hu
   have HNS : Hid (wT.heap.size ≤ wr.heap.size ∧ Na ≤ wr.heap.size) := Lib.hid ⟨HK.out.mid.size, Nat.le_trans (Nat.le_trans HLM.out.2.2.2.1 (Nat.le_of_lt (H6.out.2.2.1.row.lt ga rfl).2)) HK.out.mid.size⟩
   go_wp2_with (at_builtin; refine appendRl rfl _ _ rfl (n := 3) (HK.out.row.alloc _) (by have := HNS.out.2; simp; omega) (by omega) rfl (us := [.string ⟨#[109, 111, 114, 101]⟩, .slice none 0 0, .int .i64 0, .int .i64 0]) rfl rfl (by omega) (by omega) (HAL.out _ rfl) (cells_one4' _) ?_; intro y cap w2 hr2 hg2 _; have HM2 : Hid (Mid Na Ma wT w2) := Lib.hid ((HK.out.mid.then_below (below_one wr _)).grown hg2 HLM.out.2.2.2); clear hr2 hg2)
   have H7 : Hid (StdAt w1.heap.size Na w2 gw cw d1 d2 d3 ∧ StdAt Ma Mb w2 gb cb e1 e2 e3 ∧ Below w.heap.size w w2) := Lib.hid ⟨H6.out.1.mid HM2.out (.inl (Nat.le_refl _)), H6.out.2.2.2.1.mid HM2.out (.inr (Nat.le_refl _)), H6.out.2.1.trans (HM2.out.below H6.out.2.2.2.2 H6.out.2.1.size)⟩
   have hr3 := HRU.out w2 _ _ _ _ _ _ _ _ _ _ _ _ _ _ H7.out.2.1 H7.out.1
   clear HM2 H6 HLM HO0 HK HAL HNS
   refine hr3.mono ?_
   rintro e w3 ⟨rfl, hb3⟩
   have H8 : Hid (StdAt w1.heap.size Na w3 gw cw d1 d2 d3 ∧ Below w.heap.size w w3) := Lib.hid ⟨H7.out.1.below hb3, H7.out.2.2.trans (hb3.mono H7.out.2.2.size)⟩
   clear hb3 hr3 H7
   go_wp2_with fail
   refine (HST.out w3).mono ?_
   rintro e w8 ⟨gn, cn, f1, f2, f3, rfl, hn8, hb8⟩
   have hr4 := HRU.out w8 _ _ _ _ _ _ _ _ _ _ _ _ _ _ hn8 (H8.out.1.below hb8)
   have H9 : Hid (Below w.heap.size w w8) := Lib.hid (H8.out.2.trans (hb8.mono H8.out.2.size))
   clear hn8 hb8 H8 HST HRU
   go_wp2_with fail
   refine hr4.mono ?_
   rintro e w9 ⟨rfl, hb9⟩
   have HE := Lib.hid (H9.out.trans (hb9.mono H9.out.size))
   clear hb9 hr4 H9
   go_wp2
   go_ret
   exact ⟨rfl, HE.out⟩
end Go.Proofs.YtlcgfdijohgnpaaGreatDoor
