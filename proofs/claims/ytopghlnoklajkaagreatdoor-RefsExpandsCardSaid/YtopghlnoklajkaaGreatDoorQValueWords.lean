/-
  RefsCut, ValueWords.
-/
import Derived.Test.YtopghlnoklajkaaGreatDoorQRefsRow
import Derived.Test.YtopghlnoklajkaaGreatDoorQRefsPieces
namespace Go.Proofs.YtopghlnoklajkaaGreatDoor

def openR (r : List UInt8) : List UInt8 := if r.head? = some 123 then r.tail else r
def cutOk (r : List UInt8) : Bool := decide (r.head? = some 123) && ((openR r).contains 125 && nameB (upTo 125 (openR r)))
def cutC (s : List UInt8) : List UInt8 × List UInt8 × List UInt8 × Bool :=
 if s.contains 36 = true then
  if (after 36 s).head? = some 36 then (upTo 36 s ++ [36], [], (after 36 s).tail, true)
  else (upTo 36 s, upTo 125 (openR (after 36 s)), (if (openR (after 36 s)).contains 125 then after 125 (openR (after 36 s)) else []), cutOk (after 36 s))
 else (s, [], [], true)
theorem scan_plain : ∀ (p r b : List UInt8) (l : List PcB), p.contains 36 = false → scanB (p ++ r) b l = scanB r (b ++ p) l := by
 intro p
 induction p with
 | nil => intro r b l _; simp
 | cons c p ih =>
  intro r b l h
  have hc : c ≠ 36 := fun e => by subst e; simp at h
  rw [has_cons hc] at h
  rw [List.cons_append, scanB_byte hc, ih _ _ _ h, List.append_assoc]
  rfl
theorem upTo_clean (d : UInt8) (l : List UInt8) : (upTo d l).contains d = false := contains_no fun c hc => by
 have := List.all_eq_true.1 (List.all_takeWhile (l := l) (p := (· != d))) c hc
 simpa using this
theorem nameB_nil : nameB [] = false := by decide
theorem scan_cut (s b : List UInt8) (l : List PcB) : scanB s b l = if (cutC s).2.2.2 = true then (if (cutC s).2.1 = [] then scanB (cutC s).2.2.1 (b ++ (cutC s).1) l else scanB (cutC s).2.2.1 [] (l ++ [(b ++ (cutC s).1, false), ((cutC s).2.1, true)])) else none := by
 unfold cutC
 by_cases h : s.contains 36 = true
 ·rw [if_pos h]
  have hw := whole_is 36 s h
  have h1 : scanB s b l = scanB (36 :: after 36 s) (b ++ upTo 36 s) l := by
   conv => lhs; rw [hw]
   exact scan_plain _ _ _ _ (upTo_clean 36 s)
  rw [h1]
  generalize after 36 s = r
  generalize upTo 36 s = p
  by_cases h2 : r.head? = some 36
  ·rw [if_pos h2]
   cases r with
   | nil => cases h2
   | cons c r =>
    rw [List.head?_cons] at h2
    obtain rfl := Option.some.inj h2
    simp only [if_pos, List.tail_cons]
    rw [scanB_two, List.append_assoc]
  ·rw [if_neg h2]
   simp only
   cases r with
   | nil =>
    have : cutOk [] = false := by decide
    rw [this, if_neg (by decide)]
    exact scanB_end _ _
   | cons c r =>
    rw [List.head?_cons] at h2
    have hc : c ≠ 36 := fun e => h2 (by rw [e])
    by_cases hb : c = 123
    ·subst hb
     have ho : openR (123 :: r) = r := by unfold openR; rw [if_pos (by rfl)]; rfl
     unfold cutOk
     rw [ho, show decide ((123 :: r).head? = some (123 : UInt8)) = true from rfl, Bool.true_and]
     cases hd : r.contains 125 with
     | false =>
      rw [scanB_open hd, Bool.false_and, if_neg (by decide)]
     | true =>
      cases hn : nameB (upTo 125 r) with
      | false => rw [scanB_no hn, Bool.true_and, if_neg (by decide)]
      | true =>
       rw [scanB_ref hd hn, Bool.true_and, if_pos rfl, if_neg (fun e => by rw [e, nameB_nil] at hn; cases hn), if_pos rfl]
    ·have : cutOk (c :: r) = false := by
      unfold cutOk
      rw [List.head?_cons, decide_eq_false (fun e => hb (Option.some.inj e)), Bool.false_and]
     rw [this, if_neg (by decide)]
     exact scanB_bad hc hb _ _ _
 ·rw [if_neg h]
  simp only [Bool.not_eq_true] at h
  simp only [if_pos]
  have := scan_plain s [] b l h
  rw [List.append_nil] at this
  exact this
theorem tail_len (l : List UInt8) : l.tail.length ≤ l.length := by rw [List.length_tail]; omega
theorem after_less {d : UInt8} {l : List UInt8} (h : l.contains d = true) : (after d l).length < l.length := by
 have := congrArg List.length (whole_is d l h)
 rw [List.length_append, List.length_cons] at this
 omega
theorem openR_len (r : List UInt8) : (openR r).length ≤ r.length := by
 unfold openR
 split
 ·exact tail_len r
 ·omega
theorem upTo_len (d : UInt8) (l : List UInt8) : (upTo d l).length ≤ l.length := (List.takeWhile_sublist _).length_le
theorem cut_less {s : List UInt8} (h : s ≠ []) : (cutC s).2.2.1.length < s.length := by
 unfold cutC
 by_cases hc : s.contains 36 = true
 ·rw [if_pos hc]
  have h1 := after_less hc
  split
  ·have := tail_len (after 36 s)
   simp only; omega
  ·simp only
   split
   ·rename_i h2
    have := after_less h2
    have := openR_len (after 36 s)
    omega
   ·cases s with
    | nil => exact absurd rfl h
    | cons c r => simp
 ·rw [if_neg hc]
  cases s with
  | nil => exact absurd rfl h
  | cons c r => simp
theorem cut_len (s : List UInt8) : (cutC s).1.length ≤ s.length ∧ (cutC s).2.1.length ≤ s.length ∧ (cutC s).2.2.1.length ≤ s.length := by
 unfold cutC
 by_cases hc : s.contains 36 = true
 ·rw [if_pos hc]
  have h1 := after_less hc
  have h0 := congrArg List.length (whole_is 36 s hc)
  rw [List.length_append, List.length_cons] at h0
  split
  ·have := tail_len (after 36 s)
   simp only [List.length_append, List.length_singleton, List.length_nil]; omega
  ·have h2 := openR_len (after 36 s)
   have h3 := upTo_len 125 (openR (after 36 s))
   have h4 := after_len 125 (openR (after 36 s))
   simp only
   refine ⟨by omega, by omega, ?_⟩
   split
   ·omega
   ·simp
 ·rw [if_neg hc]; simp
theorem addN_has (ts : List (List UInt8)) (n : List UInt8) : addN ts n = if ts.contains n = true then ts else ts ++ [n] := rfl
def namesR : Option (List PcB) → List (List UInt8) × Int
 | none => ([], 100)
 | some l => (namesL l, 0)
def NmInv (s : List UInt8) (ts : List (List UInt8)) (R : List (List UInt8) × Int) : Prop := ∃ b l, ts = namesL l ∧ namesR (scanB s b l) = R
theorem NmInv.start (s : List UInt8) : NmInv s [] (namesB s) := ⟨[], [], rfl, by
 unfold namesB piecesB
 cases scanB s [] [] <;> rfl⟩
section
variable {s p nm r : List UInt8} {ts : List (List UInt8)} {R : List (List UInt8) × Int}
theorem NmInv.bad (h : NmInv s ts R) (hc : cutC s = (p, nm, r, false)) : R = ([], 100) := by
 obtain ⟨b, l, _, h2⟩ := h
 rw [scan_cut, hc, if_neg (by simp)] at h2
 exact h2.symm
theorem NmInv.plain (h : NmInv s ts R) (hc : cutC s = (p, [], r, true)) : NmInv r ts R := by
 obtain ⟨b, l, h1, h2⟩ := h
 rw [scan_cut, hc, if_pos rfl, if_pos rfl] at h2
 exact ⟨_, _, h1, h2⟩
theorem NmInv.ref (h : NmInv s ts R) (hc : cutC s = (p, nm, r, true)) (hn : nm ≠ []) : NmInv r (addN ts nm) R := by
 obtain ⟨b, l, h1, h2⟩ := h
 rw [scan_cut, hc, if_pos rfl, if_neg hn] at h2
 refine ⟨_, _, ?_, h2⟩
 rw [h1]
 unfold namesL
 rw [List.foldl_append]
 rfl
theorem NmInv.end_ (h : NmInv [] ts R) : R = (ts, 0) := by
 obtain ⟨b, l, h1, h2⟩ := h
 rw [scanB_nil] at h2
 rw [← h2, h1]
 unfold namesR namesL
 simp only [List.foldl_append]
 rfl
end
/-! Expansions, where those of what is spoken of are known -/
def pieceK (K : List UInt8 → List UInt8 × Bool) (p : PcB) : List UInt8 := if p.2 = true then (K p.1).1 else p.1
def flatK (K : List UInt8 → List UInt8 × Bool) (l : List PcB) : List UInt8 := l.flatMap (pieceK K)
def longK (K : List UInt8 → List UInt8 × Bool) (l : List PcB) : Bool := l.any fun p => p.2 && (K p.1).2
def resK (K : List UInt8 → List UInt8 × Bool) (l : List PcB) : List UInt8 × Bool := if (longK K l || decide (200 < (flatK K l).length)) = true then ([], true) else (flatK K l, false)
theorem flatK_app (K : List UInt8 → List UInt8 × Bool) (a b : List PcB) : flatK K (a ++ b) = flatK K a ++ flatK K b := by unfold flatK; rw [List.flatMap_append]
theorem longK_app (K : List UInt8 → List UInt8 × Bool) (a b : List PcB) : longK K (a ++ b) = (longK K a || longK K b) := by unfold longK; rw [List.any_append]
theorem scanP_ext : ∀ (f : Nat) (r b : List UInt8) (l out : List PcB), scanP f r b l = some out → ∃ x m, out = l ++ (b ++ x, false) :: m := by
 intro f
 induction f with
 | zero => intro r b l out h; exact ⟨[], [], by rw [← Option.some.inj h]; simp⟩
 | succ f ih =>
  intro r b l out h
  cases r with
  | nil => exact ⟨[], [], by rw [← Option.some.inj h]; simp⟩
  | cons c r =>
   unfold scanP at h
   split at h
   ·cases r with
    | nil => cases h
    | cons d r' =>
     simp only at h
     split at h
     ·obtain ⟨x, m, e⟩ := ih _ _ _ _ h
      exact ⟨36 :: x, m, by rw [e]; simp⟩
     ·split at h
      ·split at h
       ·obtain ⟨x, m, e⟩ := ih _ _ _ _ h
        exact ⟨[], (upTo 125 r', true) :: ([] ++ x, false) :: m, by rw [e]; simp⟩
       ·cases h
      ·cases h
   ·obtain ⟨x, m, e⟩ := ih _ _ _ _ h
    exact ⟨c :: x, m, by rw [e]; simp⟩
theorem scan_ext {r b : List UInt8} {l out : List PcB} (h : scanB r b l = some out) : ∃ x m, out = l ++ (b ++ x, false) :: m := scanP_ext _ _ _ _ _ h
def ExInv (K : List UInt8 → List UInt8 × Bool) (s out : List UInt8) (R : List UInt8 × Bool) : Prop := ∃ b l l', scanB s b l = some l' ∧ out = flatK K l ++ b ∧ longK K l = false ∧ out.length ≤ 200 ∧ resK K l' = R
section
variable {K : List UInt8 → List UInt8 × Bool} {s out p nm r : List UInt8} {ok : Bool} {R : List UInt8 × Bool} {l : List PcB}
theorem ExInv.start (h : piecesB s = some l) : ExInv K s [] (resK K l) := ⟨[], [], l, h, rfl, rfl, by simp, rfl⟩
theorem res_ext {b x : List UInt8} {m l0 : List PcB} (h : l = l0 ++ (b ++ x, false) :: m) (hl : longK K l0 = true ∨ 200 < (flatK K l0 ++ b).length) : resK K l = ([], true) := by
 unfold resK
 have h1 : (longK K l || decide (200 < (flatK K l).length)) = true := by
  rw [h, longK_app, flatK_app]
  rcases hl with hl | hl
  ·rw [hl]; rfl
  ·have h2 : flatK K ((b ++ x, false) :: m) = b ++ x ++ flatK K m := by unfold flatK; rw [List.flatMap_cons]; rfl
   rw [h2, decide_eq_true, Bool.or_true]
   simp only [List.length_append] at hl ⊢
   omega
 rw [if_pos h1]
theorem ExInv.step (h : ExInv K s out R) (hK : K [] = ([], false)) (hc : cutC s = (p, nm, r, ok)) : ok = true ∧ (((K nm).2 = true ∨ 200 < (out ++ p ++ (K nm).1).length) → R = ([], true)) ∧ ((K nm).2 = false → (out ++ p ++ (K nm).1).length ≤ 200 → ExInv K r (out ++ p ++ (K nm).1) R) := by
 obtain ⟨b, l, l', h1, h2, h3, h4, h5⟩ := h
 rw [scan_cut, hc] at h1
 simp only at h1
 cases ok with
 | false => rw [if_neg (by decide)] at h1; cases h1
 | true =>
  rw [if_pos rfl] at h1
  refine ⟨rfl, fun hl => ?_, fun hk hz => ?_⟩
  ·rw [← h5]
   by_cases hn : nm = []
   ·rw [if_pos hn] at h1
    obtain ⟨x, m, e⟩ := scan_ext h1
    rw [hn, hK] at hl
    rcases hl with hl | hl
    ·cases hl
    ·exact res_ext e (.inr (by rw [List.append_nil, h2] at hl; rw [← List.append_assoc]; exact hl))
   ·rw [if_neg hn] at h1
    obtain ⟨x, m, e⟩ := scan_ext h1
    refine res_ext e ?_
    rcases hl with hl | hl
    ·left
     rw [longK_app]
     have : longK K [(b ++ p, false), (nm, true)] = true := by unfold longK; simp [hl]
     rw [this, Bool.or_true]
    ·right
     rw [h2] at hl
     rw [flatK_app]
     have : flatK K [(b ++ p, false), (nm, true)] = b ++ p ++ (K nm).1 := by unfold flatK pieceK; simp
     rw [this]
     simp only [List.length_append] at hl ⊢
     simp only [List.length_nil]
     omega
  ·by_cases hn : nm = []
   ·rw [if_pos hn] at h1
    rw [hn, hK, List.append_nil] at hz ⊢
    exact ⟨b ++ p, l, l', h1, by rw [h2, List.append_assoc], h3, hz, h5⟩
   ·rw [if_neg hn] at h1
    refine ⟨[], _, l', h1, ?_, ?_, hz, h5⟩
    ·rw [h2, flatK_app, List.append_nil]
     have : flatK K [(b ++ p, false), (nm, true)] = b ++ p ++ (K nm).1 := by unfold flatK pieceK; simp
     rw [this]
     simp
    ·rw [longK_app, h3, Bool.false_or]
     unfold longK
     simp [hk]
theorem ExInv.end_ (h : ExInv K [] out R) : R = (out, false) := by
 obtain ⟨b, l, l', h1, h2, h3, h4, h5⟩ := h
 rw [scanB_nil] at h1
 rw [← h5, ← Option.some.inj h1]
 unfold resK
 have hf : flatK K (l ++ [(b, false)]) = out := by rw [flatK_app, h2]; unfold flatK pieceK; simp
 have hl : longK K (l ++ [(b, false)]) = false := by rw [longK_app, h3]; unfold longK; simp
 rw [hf, hl, Bool.false_or, decide_eq_false (by omega), if_neg (by decide)]
end
end Go.Proofs.YtopghlnoklajkaaGreatDoor

namespace Go.Proofs.YtopghlnoklajkaaGreatDoor
open Go.ChangeShapes Go.WideShapes Go.ChangeAt Go.RowKit

def OwnT (B : Nat) (w : World) (x : Option Addr) (cap : Nat) (xs : List ByteArray) : Prop :=
 (x = none ∧ xs = [] ∧ cap = 0) ∨ ∃ g, x = some ⟨g, 0, none⟩ ∧ B ≤ g ∧ cap = xs.length ∧ 0 < xs.length ∧ w.heap[g]? = some (.cells (xs.map Value.string).toArray 9 (0, 0))
theorem OwnT.none_ (B : Nat) (w : World) : OwnT B w none 0 [] := Or.inl ⟨rfl, rfl, rfl⟩
def ParseRes (w0 : World) (p : Val × Int) (e : Ending) (w' : World) : Prop :=
 Below w0.heap.size w0 w' ∧ ∃ x cap, e = .returned (.tuple #[.agg #[.int .i64 p.1.kind, .int .i64 p.1.int, .string p.1.text, .slice x p.1.words.length cap], .int .i64 p.2]) ∧ OwnT w0.heap.size w' x cap p.1.words
theorem ParseRes.of_num {w w' : World} {p : Val × Int} {e : Ending} (hp : p.1.words = []) (he : e = .returned (numR p)) (hb : Below w.heap.size w w') : ParseRes w p e w' :=
 ⟨hb, none, 0, by rw [he, hp]; rfl, by rw [hp]; exact OwnT.none_ _ _⟩
theorem MaxI.below {w w' : World} (h : MaxI w) (hb : Below w.heap.size w w') : MaxI w' := by
 obtain ⟨m, hm⟩ := h
 exact ⟨m, by rw [hb.cell (lt_of_cell hm)]; exact hm⟩
theorem set4_block (w : World) {R g : Nat} (h : g ≠ R) (x y z u : Value) : (set4 w R x y z u).heap[g]? = w.heap[g]? := by
 unfold set4
 rw [Below.heap_setCell _ _ _ _ h, Below.heap_setCell _ _ _ _ h, Below.heap_setCell _ _ _ _ h, Below.heap_setCell _ _ _ _ h]
def listR (s : ByteArray) : Val × Int := if wordsV s.data.toList = 0 then (⟨6, 0, ⟨#[]⟩, wordsOf s.data.toList⟩, 0) else (zeroV, wordsV s.data.toList)
theorem wordsV_cases (s : ByteArray) : s.data.toList = [] ∨ (¬ s.data.toList = [] ∧ allWords (pieces s.data.toList) = false ∧ listR s = (zeroV, 40)) ∨
  (¬ s.data.toList = [] ∧ allWords (pieces s.data.toList) = true ∧ 200 < s.size ∧ listR s = (zeroV, 42)) ∨
  (¬ s.data.toList = [] ∧ allWords (pieces s.data.toList) = true ∧ s.size ≤ 200 ∧ 16 ≤ s.data.toList.count 44 ∧ listR s = (zeroV, 42)) ∨
  (¬ s.data.toList = [] ∧ allWords (pieces s.data.toList) = true ∧ s.size ≤ 200 ∧ s.data.toList.count 44 < 16 ∧ listR s = (⟨6, 0, ⟨#[]⟩, (pieces s.data.toList).map mkB⟩, 0)) := by
 have hl : s.data.toList.length = s.size := by simp
 have hc := pieces_count s.data.toList
 by_cases h0 : s.data.toList = []
 ·exact Or.inl h0
 refine Or.inr ?_
 cases ha : allWords (pieces s.data.toList) with
 | false =>
  have hw : wordsV s.data.toList = 40 := by unfold wordsV; rw [if_neg h0, ha, if_pos rfl]
  exact Or.inl ⟨h0, rfl, by unfold listR; rw [hw]; rfl⟩
 | true =>
  refine Or.inr ?_
  have hw : wordsV s.data.toList = if 200 < s.data.toList.length ∨ 16 < (pieces s.data.toList).length then 42 else 0 := by unfold wordsV; rw [if_neg h0, ha]; rfl
  by_cases h2 : 200 < s.size
  ·rw [if_pos (Or.inl (by omega))] at hw
   exact Or.inl ⟨h0, rfl, h2, by unfold listR; rw [hw]; rfl⟩
  refine Or.inr ?_
  by_cases h3 : 16 ≤ s.data.toList.count 44
  ·rw [if_pos (Or.inr (by omega))] at hw
   exact Or.inl ⟨h0, rfl, by omega, h3, by unfold listR; rw [hw]; rfl⟩
  ·rw [if_neg (by omega)] at hw
   exact Or.inr ⟨h0, rfl, by omega, by omega, by unfold listR wordsOf; rw [hw, if_pos rfl, if_neg h0]⟩

set_option maxHeartbeats 1600000 in
set_option maxRecDepth 100000 in
theorem parseWords_any (s : ByteArray) (w : World) (hT : Tab w) (hM : MaxI w) (hs : s.size ≤ maxLen) :
  Calls Tryz.prog 125 #[.string s] w (ParseRes w (listR s)) := by
 have HS := Lib.hid hs
 have HT := Lib.hid hT
 have HM := Lib.hid hM
 clear hT hM
 rcases wordsV_cases s with h0 | ⟨h0, ha, hv⟩ | ⟨h0, ha, hl, hv⟩ | ⟨h0, ha, hl, hn, hv⟩ | ⟨h0, ha, hl, hn, hv⟩
 ·obtain rfl := eq_text h0
  have HV : Hid (listR (mkB []) = (⟨6, 0, ⟨#[]⟩, []⟩, 0)) := Lib.hid rfl
  clear h0 hs
  have HZ := box4_new w (.int .i64 0) (.int .i64 0) (.string ⟨#[]⟩) (.slice none 0 0) 48
  go_enter Tryz.func125, Tryz.ntmps125
  unfold mkB
  go_wp2
  exact bodyPost_ret (v := .tuple #[.agg #[.int .i64 6, .int .i64 0, .string ⟨#[]⟩, .slice none 0 0], .int .i64 0]) (by simp [results, Tryz.results125, go_sem]) rfl ⟨(Below.refl _ _).alloc (Nat.le_refl _) _, none, 0, rfl, OwnT.none_ _ _⟩
 ·have HV := Lib.hid hv
  have HA := Lib.hid ha
  have e0 := ne_text h0
  have e1 : s.toList.isEmpty = false := by cases hq : s.toList with
   | nil => rw [hq] at e0; cases e0
   | cons a b => rfl
  clear hv ha h0 hs
  go_enter Tryz.func125, Tryz.ntmps125
  go_wp2_with fail
  refine (isList_any _ _ (HT.out.below ((Below.refl _ _).alloc (Nat.le_refl _) _)) HS.out).mono ?_
  rintro e w1 ⟨rfl, hb⟩
  rw [HA.out]
  have HZ : zero4 w1 w.heap.size := (box4_new w _ _ _ _ _).below hb
  have HZZ := Lib.hid (HZ.last (((Below.refl _ _).alloc (Nat.le_refl _) _).trans (hb.mono (by simp))) (Nat.le_refl _))
  clear hb
  obtain ⟨c0, c1, c2, c3, z0, z1, z2, z3⟩ := HZ
  obtain ⟨g0, g1, g2, g3, hB4⟩ := HZZ.out (.int .i64 0) (.int .i64 0) (.string ⟨#[]⟩) (.slice none 0 0)
  have HB := Lib.hid hB4
  clear hB4
  go_wp2
  exact bodyPost_ret (v := .tuple #[.agg #[.int .i64 0, .int .i64 0, .string ⟨#[]⟩, .slice none 0 0], .int .i64 40]) (by simp [results, Tryz.results125, go_sem, g0, g1, g2, g3]) rfl ⟨HB.out, none, 0, ret_val (by rw [HV.out]; rfl), HV.out ▸ OwnT.none_ _ _⟩
 ·have HV := Lib.hid hv
  have HA := Lib.hid ha
  have e0 := ne_text h0
  have e1 : s.toList.isEmpty = false := by cases hq : s.toList with
   | nil => rw [hq] at e0; cases e0
   | cons a b => rfl
  have d1 : decide (200 < (s.size : Int)) = true := decide_eq_true (by omega)
  clear hv ha h0 hs
  go_enter Tryz.func125, Tryz.ntmps125
  go_wp2_with fail
  refine (isList_any _ _ (HT.out.below ((Below.refl _ _).alloc (Nat.le_refl _) _)) HS.out).mono ?_
  rintro e w1 ⟨rfl, hb⟩
  rw [HA.out]
  have HZ : zero4 w1 w.heap.size := (box4_new w _ _ _ _ _).below hb
  have HZZ := Lib.hid (HZ.last (((Below.refl _ _).alloc (Nat.le_refl _) _).trans (hb.mono (by simp))) (Nat.le_refl _))
  clear hb
  obtain ⟨c0, c1, c2, c3, z0, z1, z2, z3⟩ := HZ
  obtain ⟨g0, g1, g2, g3, hB4⟩ := HZZ.out (.int .i64 0) (.int .i64 0) (.string ⟨#[]⟩) (.slice none 0 0)
  have HB := Lib.hid hB4
  clear hB4
  go_wp2
  exact bodyPost_ret (v := .tuple #[.agg #[.int .i64 0, .int .i64 0, .string ⟨#[]⟩, .slice none 0 0], .int .i64 42]) (by simp [results, Tryz.results125, go_sem, g0, g1, g2, g3]) rfl ⟨HB.out, none, 0, ret_val (by rw [HV.out]; rfl), HV.out ▸ OwnT.none_ _ _⟩
 ·have HV := Lib.hid hv
  have HA := Lib.hid ha
  have e0 := ne_text h0
  have e1 : s.toList.isEmpty = false := by cases hq : s.toList with
   | nil => rw [hq] at e0; cases e0
   | cons a b => rfl
  have d1 : decide (200 < (s.size : Int)) = false := decide_eq_false (by omega)
  obtain ⟨m, hm⟩ : ∃ m, s.data.toList.count 44 = m := ⟨_, rfl⟩
  have HCN := Lib.hid hm
  rw [hm] at hn
  have d2 : decide ((16 : Int) ≤ (m : Int)) = true := decide_eq_true (by omega)
  clear hm
  clear hv ha h0 hs
  go_enter Tryz.func125, Tryz.ntmps125
  go_wp2_with fail
  refine (isList_any _ _ (HT.out.below ((Below.refl _ _).alloc (Nat.le_refl _) _)) HS.out).mono ?_
  rintro e w1 ⟨rfl, hb⟩
  rw [HA.out]
  have HZ : zero4 w1 w.heap.size := (box4_new w _ _ _ _ _).below hb
  have HZZ := Lib.hid (HZ.last (((Below.refl _ _).alloc (Nat.le_refl _) _).trans (hb.mono (by simp))) (Nat.le_refl _))
  clear hb
  obtain ⟨c0, c1, c2, c3, z0, z1, z2, z3⟩ := HZ
  obtain ⟨g0, g1, g2, g3, hB4⟩ := HZZ.out (.int .i64 0) (.int .i64 0) (.string ⟨#[]⟩) (.slice none 0 0)
  have HB := Lib.hid hB4
  clear hB4
  go_wp2_with fail
  refine (count_any _ _).mono ?_
  rintro e w' ⟨rfl, rfl⟩
  rw [HCN.out]
  go_wp2
  exact bodyPost_ret (v := .tuple #[.agg #[.int .i64 0, .int .i64 0, .string ⟨#[]⟩, .slice none 0 0], .int .i64 42]) (by simp [results, Tryz.results125, go_sem, g0, g1, g2, g3]) rfl ⟨HB.out, none, 0, ret_val (by rw [HV.out]; rfl), HV.out ▸ OwnT.none_ _ _⟩
 ·have HV := Lib.hid hv
  have HA := Lib.hid ha
  have e0 := ne_text h0
  have e1 : s.toList.isEmpty = false := by cases hq : s.toList with
   | nil => rw [hq] at e0; cases e0
   | cons a b => rfl
  have d1 : decide (200 < (s.size : Int)) = false := decide_eq_false (by omega)
  obtain ⟨m, hm⟩ : ∃ m, s.data.toList.count 44 = m := ⟨_, rfl⟩
  have HCN := Lib.hid hm
  rw [hm] at hn
  have d2 : decide ((16 : Int) ≤ (m : Int)) = false := decide_eq_false (by omega)
  clear hm
  clear hv ha h0 hs hn
  go_enter Tryz.func125, Tryz.ntmps125
  go_wp2_with fail
  refine (isList_any _ _ (HT.out.below ((Below.refl _ _).alloc (Nat.le_refl _) _)) HS.out).mono ?_
  rintro e w1 ⟨rfl, hb⟩
  rw [HA.out]
  have HB1 : Hid (Below w.heap.size w w1 ∧ zero4 w1 w.heap.size) := Lib.hid ⟨((Below.refl _ _).alloc (Nat.le_refl _) _).trans (hb.mono (by simp)), (box4_new w _ _ _ _ _).below hb⟩
  clear hb
  go_wp2_with fail
  refine (count_any _ _).mono ?_
  rintro e w' ⟨rfl, rfl⟩
  rw [HCN.out]
  go_wp2_with fail
  refine (clone_any _ _ (by omega)).mono ?_
  rintro e w3 ⟨rfl, hb3⟩
  have HB3 : Hid (Below w.heap.size w w3 ∧ zero4 w3 w.heap.size) := Lib.hid ⟨HB1.out.1.trans (hb3.mono HB1.out.1.size), HB1.out.2.below hb3⟩
  clear hb3 HB1
  go_wp2_with fail
  refine (split_any _ _ hl (HM.out.below HB3.out.1)).mono ?_
  rintro e w4 ⟨rfl, hw4⟩
  have hb4 : Below w3.heap.size w3 w4 := by rw [hw4]; exact (Below.refl _ _).alloc (Nat.le_refl _) _
  have hblk : w4.heap[w3.heap.size]? = some (.cells (((pieces s.data.toList).map mkB).map Value.string).toArray 9 (0, 0)) := by rw [hw4]; exact heap_alloc_new _ _
  have hge : w.heap.size < w3.heap.size := HB3.out.2.lt
  have hB4 : Below w.heap.size w w4 := HB3.out.1.trans (hb4.mono HB3.out.1.size)
  have HZ : zero4 w4 w.heap.size := HB3.out.2.below hb4
  obtain ⟨g, hg⟩ : ∃ g, w3.heap.size = g := ⟨_, rfl⟩
  rw [hg] at hblk hge ⊢
  obtain ⟨n, hn⟩ : ∃ n, (pieces s.data.toList).length = n := ⟨_, rfl⟩
  have HN := Lib.hid hn
  rw [hn]
  have HO : Hid (OwnT w.heap.size (set4 w4 w.heap.size (.int .i64 6) (.int .i64 0) (.string ⟨#[]⟩) (.slice (some ⟨g, 0, none⟩) n n)) (some ⟨g, 0, none⟩) n ((pieces s.data.toList).map mkB)) := Lib.hid (Or.inr ⟨g, rfl, by omega, by simp [hn], by rw [List.length_map, hn]; have := pieces_count s.data.toList; omega, by rw [set4_block _ (by omega)]; exact hblk⟩)
  have HZZ := Lib.hid (HZ.last hB4 (Nat.le_refl _))
  clear hw4 hb4 hblk hge hB4 hg hn HB3
  obtain ⟨c0, c1, c2, c3, z0, z1, z2, z3⟩ := HZ
  obtain ⟨g0, g1, g2, g3, hB4⟩ := HZZ.out (.int .i64 6) (.int .i64 0) (.string ⟨#[]⟩) (.slice (some ⟨g, 0, none⟩) n n)
  have HB := Lib.hid hB4
  clear hB4
  go_wp2
  exact bodyPost_ret (v := .tuple #[.agg #[.int .i64 6, .int .i64 0, .string ⟨#[]⟩, .slice (some ⟨g, 0, none⟩) n n], .int .i64 0]) (by simp [results, Tryz.results125, go_sem, g0, g1, g2, g3]) rfl ⟨HB.out, some ⟨g, 0, none⟩, n, ret_val (by rw [HV.out]; simp [HN.out]), by rw [HV.out]; exact HO.out⟩
end Go.Proofs.YtopghlnoklajkaaGreatDoor
