/-
  The walk of the law's parses: files, each by both readers.
-/
import Derived.Test.YtbpbiakdigjcnaaDoorIniApart
import Derived.Test.YtbpbiakdigjcnaaDoorIniAwake
namespace Go.Proofs.YtbpbiakdigjcnaaDoor
open Go.ChangeShapes Go.WideShapes Go.ChangeAt Go.RowKit

theorem run_len (xs : List (List UInt8)) : ∀ (num : Nat) (a : List UInt8) (ls out : List LineV), runB num (a, ls) xs = .inr out → a.length ≤ 10000 → (∀ x ∈ xs, x.length ≤ 8000) → out.length ≤ ls.length + xs.length := by
  induction xs with
  | nil => intro num a ls out h _ _; have : ls = out := Sum.inr.inj h; rw [this]; simp
  | cons x r ih =>
    intro num a ls out h ha hx
    rw [runB] at h
    cases hs : stepB num (a, ls) (trimB x) with
    | none => rw [hs] at h; cases h
    | some st =>
      obtain ⟨a', ls'⟩ := st
      rw [hs] at h
      have hxl := hx x (List.mem_cons_self ..)
      obtain ⟨h1, h2⟩ := step_len hs ha (Nat.le_trans (trimB_len x) hxl)
      have := ih _ _ _ _ h h1 (fun y hy => hx y (List.mem_cons_of_mem _ hy))
      simp only [List.length_cons]; omega
theorem parse_len (s : List UInt8) : (parseB s).1.length ≤ 8001 := by
  unfold parseB
  by_cases hl : 8000 < s.length
  · rw [if_pos hl]; simp
  · rw [if_neg hl]
    cases hr : runB 1 ([], []) (cuts 10 s) with
    | inl n => simp
    | inr out =>
      have h := run_len _ _ _ _ _ hr (by simp) (fun x hx => Nat.le_trans (cuts_len _ x hx) (by omega))
      have hc := cuts_count 10 s
      have := List.count_le_length (a := (10 : UInt8)) (l := s)
      simp only [List.length_nil] at h ⊢
      omega
def upd {α : Type} (f : Nat → α) (k : Nat) (x : α) : Nat → α := fun j => if j = k then x else f j
theorem upd_same {α : Type} (f : Nat → α) (k : Nat) (x : α) : upd f k x k = x := if_pos rfl
theorem upd_ne {α : Type} (f : Nat → α) {k j : Nat} (x : α) (h : j ≠ k) : upd f k x j = f j := if_neg h
section
variable {w w' : World} {B B1 B2 n n1 n2 s1 s2 : Nat} {e e1 e2 : TypeId} {v v1 v2 : Value} {xs xs1 xs2 : List Value}
theorem row_ne (h1 : w.ownsRow B1 e1 s1 v1 n1 xs1) (h2 : w.ownsRow B2 e2 s2 v2 n2 xs2) (hne : e1 ≠ e2) : v1.ownBlock = none ∨ v1.ownBlock ≠ v2.ownBlock := by
  rcases h1.2 with ⟨rfl, _⟩ | ⟨g, cap, cur, rfl, _, hg, _⟩
  · exact .inl rfl
  · refine .inr fun h => ?_
    rcases h2.2 with ⟨rfl, _⟩ | ⟨g2, cap2, cur2, rfl, _, hg2, _⟩
    · simp [Value.ownBlock] at h
    · have : g = g2 := by simpa [Value.ownBlock] using h
      subst this
      rw [hg] at hg2
      injection hg2 with hg2
      injection hg2 with _ ht _
      exact hne ht
theorem row_below (h : w.ownsRow B e n v n1 xs) (hb : Below w.heap.size w w') : w'.ownsRow B e n v n1 xs :=
  h.kept (grown_of_below hb none) (by cases h2 : v.ownBlock with | none => exact Or.inl rfl | some _ => exact Or.inr (by simp))
theorem grown_alloc {o : Obj} {row : Option Nat} (hg : (w.alloc o).grownBy w' row) : w.grownBy w' row :=
  ⟨hg.os, hg.tape, hg.output, Nat.le_trans (by simp) hg.size, fun k hk hne => (hg.block k (by simp; omega) hne).trans ((below_one w o).block k hk)⟩
theorem lies_own {g8 n cap : Nat} {P : Nat → Prop} (h : P g8) : ∀ g, (Value.slice (some ⟨g8, 0, none⟩) n cap).ownBlock = some g → P g := by
  intro g hg
  have : g8 = g := by simpa [Value.ownBlock] using hg
  rw [← this]; exact h
theorem row_size (h : w.ownsRow B e n v n1 xs) : ∀ g, v.ownBlock = some g → g < w.heap.size := by
  intro g hg
  rcases h.2 with ⟨rfl, _⟩ | ⟨g2, cap2, cur2, rfl, _, hg2, _⟩
  · cases hg
  · have : g2 = g := by simpa [Value.ownBlock] using hg
    subst this
    exact heap_lt hg2
theorem LB3.of_row {N : Nat} {V : Nat → Value} {A cap : Nat} (h : w.ownsRow B 27 1 (.slice (some ⟨A, 0, none⟩) N cap) N ((List.range N).map V)) : LB3 N w A V := by
  rcases h.2 with ⟨h1, _⟩ | ⟨g, cap, cur, h1, _, hg, _, _, _, ht⟩
  · cases h1
  · injection h1 with e1 _ _
    have : A = g := by simpa using e1
    subst this
    refine ⟨cur, hg, fun k hk => ?_⟩
    have h2 : (cur.toList.take (N * 1))[k]? = some (V k) := by rw [ht]; simp [hk]
    rw [List.getElem?_take, if_pos (by omega), Array.getElem?_toList] at h2
    exact h2
end
/-- An append of a list to the lists: where it lies. -/
theorem appendL4 {ops : Array Oper} {rest : List Oper} {o : Oper} {a : Act} {Q : Exit → Act → World → Prop} (hgd : o.guard = none) (s x : Operand)
    (ho : o.op = .call { callee := .builtin .append, args := #[s, x], argTypes := #[43, 43] }) {B n : Nat} {w : World} {v u : Value} {vs : List Value} (hown : w.ownsRow B 27 1 v n vs) (hB : B ≤ w.heap.size) (hn : n ≤ 1000000) (hu : u.oneCell' = true) (hs : a.eval s = v)
    {c : Nat} (hx : a.eval x = .slice (some ⟨w.heap.size, 0, none⟩) 1 c)
    (h : ∀ g cap w', w'.ownsRow B 27 1 (.slice (some ⟨g, 0, none⟩) (n + 1) cap) (n + 1) (vs ++ [u]) → (w.alloc (Obj.cells #[u] 27)).grownBy w' v.ownBlock → (v.ownBlock = some g ∨ w.heap.size ≤ g) → wpList Tryd.prog ops Q rest (a.put o.dst (.slice (some ⟨g, 0, none⟩) (n + 1) cap)) w') :
    wpList Tryd.prog ops Q (o :: rest) a (w.alloc (Obj.cells #[u] 27)) := by
  obtain ⟨i0, hi, hz0, hz1, hz2⟩ := info_parts infoLst3
  refine wpList_append_lies _ hgd s x _ ho B 27 i0 (.slice none 0 0) 1 24 Tryd.underlying43 hi hz0 hz1 hz2 rfl (by decide) v n vs hs (hown.alloc _) ⟨w.heap.size, 0, none⟩ 1 c [u] hx rfl (World.news_of_block (heap_alloc_new w _)) ?_ (by decide) (by unfold maxLen; omega) (by omega) (Nat.le_trans hB (below_one w _).size) _ rfl ?_
  · intro u' hu'
    rw [List.mem_singleton.1 hu']; exact hu
  · intro g cap w1 h1 h2 h3 _
    exact h g cap w1 h1 h2 (h3.imp id fun h3 => by rw [h3]; exact (below_one w _).size)

/-- Both readers' lists so far. -/
structure PL (w0 w : World) (F : Nat → List LineV) (lv wv : Value) (k : Nat) (X : Nat → Option Addr) (C : Nat → Nat) (Y : Nat → Option Addr) (D : Nat → Nat) (col : Nat → Nat) : Prop where
  below : Below w0.heap.size w0 w
  lrow : w.ownsRow w0.heap.size 27 1 lv k ((List.range k).map (lv3 X F C))
  wrow : w.ownsRow w0.heap.size 27 1 wv k ((List.range k).map (lv3 Y F D))
  own : ∀ j, j < k → w.ownsRow w0.heap.size 35 3 (lv3 X F C j) (F j).length (flatL (F j))
  want : ∀ j, j < k → w.ownsRow w0.heap.size 35 3 (lv3 Y F D j) (F j).length (flatL (F j))
  col : ∀ j, j < k → ∀ g, X j = some ⟨g, 0, none⟩ → col g = j
  ne : lv.ownBlock = none ∨ lv.ownBlock ≠ wv.ownBlock
section
variable {w0 w w7 w8 w9 : World} {F : Nat → List LineV} {lv wv lv' wv' : Value} {k : Nat} {X Y : Nat → Option Addr} {C D : Nat → Nat} {col : Nat → Nat}
theorem PL.start (w : World) (F : Nat → List LineV) (X Y : Nat → Option Addr) (C D : Nat → Nat) (col : Nat → Nat) : PL w w F (.slice none 0 0) (.slice none 0 0) 0 X C Y D col :=
  ⟨Below.refl _ _, World.ownsRow_nil _ _ _ _, World.ownsRow_nil _ _ _ _, fun j hj => by omega, fun j hj => by omega, fun j hj => by omega, .inl rfl⟩
theorem PL.wrow8 (h : PL w0 w F lv wv k X C Y D col) (hb : Below w.heap.size w w7) {o : Obj} (hg8 : (w7.alloc o).grownBy w8 lv.ownBlock) : w8.ownsRow w0.heap.size 27 1 wv k ((List.range k).map (lv3 Y F D)) := by
  refine (row_below h.wrow hb).kept (grown_alloc hg8) ?_
  rcases h.ne with h1 | h1
  · cases h2 : wv.ownBlock with
    | none => exact .inl rfl
    | some _ => rw [h1]; exact .inr (by simp)
  · exact .inr fun e => h1 e.symm
theorem lv3_upd (X : Nat → Option Addr) (C : Nat → Nat) (F : Nat → List LineV) (k : Nat) (x : Option Addr) (c : Nat) : (List.range (k + 1)).map (lv3 (upd X k x) F (upd C k c)) = (List.range k).map (lv3 X F C) ++ [.slice x (F k).length c] := by
  rw [List.range_succ, List.map_append]
  congr 1
  · apply List.map_congr_left
    intro j hj
    have : j ≠ k := by have := List.mem_range.1 hj; omega
    unfold lv3
    rw [upd_ne _ _ this, upd_ne _ _ this]
  · simp [lv3, upd_same]
theorem PL.push (h : PL w0 w F lv wv k X C Y D col) (hb : Below w.heap.size w w7) {x y : Option Addr} {c d : Nat} (hx : w7.ownsRow w.heap.size 35 3 (.slice x (F k).length c) (F k).length (flatL (F k))) (hy : w7.ownsRow w.heap.size 35 3 (.slice y (F k).length d) (F k).length (flatL (F k))) {o1 o2 : Obj}
    (hl8 : w8.ownsRow w0.heap.size 27 1 lv' (k + 1) ((List.range k).map (lv3 X F C) ++ [.slice x (F k).length c])) (hg8 : (w7.alloc o1).grownBy w8 lv.ownBlock) (hi8 : ∀ g, lv'.ownBlock = some g → lv.ownBlock = some g ∨ w7.heap.size ≤ g)
    (hl9 : w9.ownsRow w0.heap.size 27 1 wv' (k + 1) ((List.range k).map (lv3 Y F D) ++ [.slice y (F k).length d])) (hg9 : (w8.alloc o2).grownBy w9 wv.ownBlock) (hi9 : ∀ g, wv'.ownBlock = some g → wv.ownBlock = some g ∨ w8.heap.size ≤ g) :
    PL w0 w9 F lv' wv' (k + 1) (upd X k x) (upd C k c) (upd Y k y) (upd D k d) (fun b => if w.heap.size ≤ b then k else col b) := by
  have hne : 35 ≠ 27 := by decide
  have g8 := grown_alloc hg8
  have g9 := grown_alloc hg9
  have hwr := h.wrow8 hb hg8
  have hlt : ∀ g, lv.ownBlock = some g → g < w7.heap.size := row_size (row_below h.lrow hb)
  have hwt : ∀ g, wv.ownBlock = some g → g < w7.heap.size := row_size (row_below h.wrow hb)
  have hwb : ∀ g, wv.ownBlock = some g → w0.heap.size ≤ g := fun g hg => (h.wrow.lt g hg).1
  have hlb : ∀ g, lv.ownBlock = some g → w0.heap.size ≤ g := fun g hg => (h.lrow.lt g hg).1
  have keep : ∀ (v : Value) (n B : Nat) (xs : List Value), w7.ownsRow B 35 3 v n xs → w9.ownsRow B 35 3 v n xs := fun v n B xs hv => by
    have h8 := hv.kept g8 (row_ne hv (row_below h.lrow hb) hne)
    exact h8.kept g9 (row_ne h8 hwr hne)
  have hB7 : Below w0.heap.size w0 w7 := h.below.trans (hb.mono h.below.size)
  have hB8 : Below w0.heap.size w0 w8 := hB7.grown g8 hB7.size hlb
  have hB9 : Below w0.heap.size w0 w9 := hB8.grown g9 hB8.size hwb
  have hl9' : w9.ownsRow w0.heap.size 27 1 lv' (k + 1) ((List.range k).map (lv3 X F C) ++ [.slice x (F k).length c]) := by
    refine hl8.kept g9 ?_
    cases h1 : lv'.ownBlock with
    | none => exact .inl rfl
    | some g =>
      refine .inr fun e => ?_
      have hw := hwt g e.symm
      rcases hi8 g h1 with h2 | h2
      · rcases h.ne with h3 | h3
        · rw [h3] at h2; cases h2
        · exact h3 (h2.trans e)
      · omega
  refine ⟨hB9, by rw [lv3_upd]; exact hl9', by rw [lv3_upd]; exact hl9, fun j hj => ?_, fun j hj => ?_, fun j hj g hg => ?_, ?_⟩
  · by_cases hjk : j = k
    · subst hjk
      unfold lv3
      rw [upd_same, upd_same]
      exact keep _ _ _ _ (own_less hx h.below.size)
    · unfold lv3
      rw [upd_ne _ _ hjk, upd_ne _ _ hjk]
      exact keep _ _ _ _ (row_below (h.own j (by omega)) hb)
  · by_cases hjk : j = k
    · subst hjk
      unfold lv3
      rw [upd_same, upd_same]
      exact keep _ _ _ _ (own_less hy h.below.size)
    · unfold lv3
      rw [upd_ne _ _ hjk, upd_ne _ _ hjk]
      exact keep _ _ _ _ (row_below (h.want j (by omega)) hb)
  · by_cases hjk : j = k
    · subst hjk
      rw [upd_same] at hg
      have := (hx.lt g (by rw [hg]; rfl)).1
      show (if w.heap.size ≤ g then j else col g) = j
      rw [if_pos this]
    · rw [upd_ne _ _ hjk] at hg
      have := row_size (h.own j (by omega)) g (by unfold lv3; rw [hg]; rfl)
      show (if w.heap.size ≤ g then k else col g) = j
      rw [if_neg (by omega)]
      exact h.col j (by omega) g hg
  · cases h1 : lv'.ownBlock with
    | none => exact .inl rfl
    | some g =>
      refine .inr fun e => ?_
      have hs8 : g < w8.heap.size := row_size hl8 g h1
      rcases hi9 g e.symm with h2 | h2
      · have hw := hwt g h2
        rcases hi8 g h1 with h3 | h3
        · rcases h.ne with h4 | h4
          · rw [h4] at h3; cases h3
          · exact h4 (h3.trans h2.symm)
        · omega
      · omega
theorem PL.came {N : Nat} {A W cl cw : Nat} (h : PL w0 w F (.slice (some ⟨A, 0, none⟩) N cl) (.slice (some ⟨W, 0, none⟩) N cw) N X C Y D col) (hF : ∀ k, k < N → (F k).length ≤ 8001) : Came3 N w0.heap.size w A W X C F Y D col :=
  ⟨LB3.of_row h.lrow, LB3.of_row h.wrow, h.own, h.col, fun k hk => by
    obtain ⟨x, c, e, hl⟩ := Lns.of_own (h.want k hk) rfl
    unfold lv3 at e
    injection e with e1 _ _
    rw [e1]; exact hl, hF, h.below.size⟩
end

set_option maxHeartbeats 3200000 in
set_option maxRecDepth 100000 in
theorem parses_any (N S c : Nat) (T : Nat → ByteArray) (w : World) (hT : Tab w) (hI : MaxI w) (hc : ∀ k, k < N → w.cell? ⟨S, k, none⟩ = some (.string (T k))) (hs : ∀ k, k < N → (T k).size ≤ 4294967280) (hN : N ≤ 100) (hN0 : 0 < N) :
    Calls Tryd.prog 10 #[.slice (some ⟨S, 0, none⟩) N c] w fun e w' => e = .returned (.bool true) ∧ Below w.heap.size w w' := by
  have HT := Lib.hid hT
  have HI := Lib.hid hI
  have HC := Lib.hid hc
  have HS := Lib.hid hs
  have HNP := Lib.hid hN0
  obtain ⟨F, hF⟩ : ∃ F : Nat → List LineV, F = fun k => (parseB (T k).data.toList).1 := ⟨_, rfl⟩
  have HF : Hid (∀ k, (parseB (T k).data.toList).1 = F k) := Lib.hid fun k => by rw [hF]
  have HFL : Hid (∀ k, (F k).length ≤ 8001) := Lib.hid fun k => by rw [hF]; exact parse_len _
  have H0 : Hid (∃ X C Y D col, PL w w F (.slice none 0 0) (.slice none 0 0) 0 X C Y D col) := Lib.hid ⟨fun _ => none, fun _ => 0, fun _ => none, fun _ => 0, fun _ => 0, PL.start w F _ _ _ _ _⟩
  clear hT hI hc hs hF hN0
  go_enter Tryd.func10, Tryd.ntmps10
  go_wp2
  go_loopw [3, 4, 5] (fun lu wu i wr => ∃ (k : Nat) (lv wv : Value), lv = lu ∧ wv = wu ∧ i = .int .i64 k ∧ k ≤ N ∧ Hid (∃ X C Y D col, PL w wr F lv wv k X C Y D col)) (fun _ _ i _ => N - (intOf i).toNat)
  case atStart => exact ⟨0, _, _, rfl, rfl, rfl, by omega, H0⟩
  case round =>
    clear H0
    obtain ⟨k, lv, wv, rfl, rfl, rfl, hk, HK⟩ := hrel
    obtain ⟨X, C, Y, D, col, hpl⟩ := HK.out
    have HP := Lib.hid hpl
    clear hpl HK
    by_cases hlt : k < N
    · have c1 : wr.cell? ⟨S, k, none⟩ = some (.string (T k)) := by
        have h := HC.out k hlt
        rw [HP.out.below.cell (p := ⟨S, k, none⟩) (lt_of_cell h)]; exact h
      have q1 : (0 : Int) ≤ k := by omega
      have q2 : (k : Int) < N := by omega
      have HPA := Lib.hid (parse_any (T k) wr (HT.out.below HP.out.below) (maxI_below HI.out HP.out.below) (HS.out k hlt))
      have HRP : Hid (∀ W, Calls Tryd.prog 18 #[.string (T k)] W (ParRes W (T k).data.toList)) := Lib.hid fun W => refParse_any (T k) W (HS.out k hlt)
      have HFk := Lib.hid (HF.out k)
      have HSl : Hid (∀ W, Below wr.heap.size wr W → W.cell? ⟨S, k, none⟩ = some (.string (T k))) := Lib.hid fun W hb => by rw [hb.cell (p := ⟨S, k, none⟩) (lt_of_cell c1)]; exact c1
      obtain ⟨Q, hQ⟩ : ∃ Q, parseB (T k).data.toList = Q := ⟨_, rfl⟩
      have HQ := Lib.hid hQ
      unfold ParRes at HPA HRP
      rw [hQ] at HPA HRP HFk
      obtain ⟨Q1, en, pn⟩ := Q
      simp only at HPA HRP HFk
      rw [HFk.out] at HPA HRP
      clear hQ
      go_wp2_with fail
      refine HPA.out.mono ?_
      rintro e w5 ⟨hb5, v5, rfl, ho5⟩
      obtain ⟨x5, c5, hv5⟩ := own_slice ho5
      subst hv5
      have HB5 := Lib.hid hb5
      have HO5 := Lib.hid ho5
      have c2 := HSl.out _ hb5
      clear hb5 ho5 c1
      go_wp2_with fail
      refine (HRP.out _).mono ?_
      rintro e w6 ⟨hb6, v6, rfl, ho6⟩
      obtain ⟨x6, c6, hv6⟩ := own_slice ho6
      subst hv6
      have HB6 := Lib.hid (HB5.out.trans (hb6.mono HB5.out.size))
      have HO6 := Lib.hid (row_below HO5.out hb6)
      have HR6 := Lib.hid (own_less ho6 HB5.out.size)
      have HSA : Hid (Calls Tryd.prog 15 #[.slice x5 (F k).length c5, .slice x6 (F k).length c6] w6 fun e w' => e = .returned (.bool true) ∧ Below w6.heap.size w6 w') := Lib.hid (by
        obtain ⟨x, c, e, hl⟩ := Lns.of_own HO6.out rfl
        injection e with e1 e2 e3
        subst e1 e3
        obtain ⟨y, d, e, hl2⟩ := Lns.of_own HR6.out rfl
        injection e with e1 e2 e3
        subst e1 e3
        exact isame_any (F k) _ _ _ _ w6 hl hl2 (by have := HFL.out k; omega))
      clear hb6 ho6 c2 HO5
      obtain ⟨n, hn⟩ : ∃ n, (F k).length = n := ⟨_, rfl⟩
      rw [hn] at HSA
      rw [hn] at HO6 HR6 ⊢
      have HN := Lib.hid hn
      clear hn
      go_wp2_with fail
      refine HSA.out.mono ?_
      rintro e w7 ⟨rfl, hb7⟩
      have HB7 := Lib.hid (HB6.out.trans (hb7.mono HB6.out.size))
      have HO7 := Lib.hid (row_below HO6.out hb7)
      have HR7 := Lib.hid (row_below HR6.out hb7)
      have HLR := Lib.hid (row_below HP.out.lrow HB7.out)
      have hz7 : w.heap.size ≤ w7.heap.size := Nat.le_trans HP.out.below.size HB7.out.size
      have HZ7 := Lib.hid hz7
      have d1 : (en != en) = false := by simp
      have d2 : (pn != pn) = false := by simp
      clear hb7 hz7 HO6 HR6 HSA
      go_wp2_with (at_builtin; first
        | (refine appendL4 rfl _ _ rfl HLR.out HZ7.out (by omega) rfl rfl rfl ?_; intro g8 cap8 w8 hown8 hgrow8 hlies8; have H8 := Lib.hid (And.intro hown8 (And.intro hgrow8 hlies8)); have HWR := Lib.hid (HP.out.wrow8 HB7.out hgrow8); have HZ8 : Hid (w.heap.size ≤ w8.heap.size) := Lib.hid (Nat.le_trans HZ7.out (grown_alloc hgrow8).size); clear hown8 hgrow8 hlies8)
        | (refine appendL4 rfl _ _ rfl HWR.out HZ8.out (by omega) rfl rfl rfl ?_; intro g9 cap9 w9 hown9 hgrow9 hlies9; have H9 := Lib.hid (And.intro hown9 (And.intro hgrow9 hlies9)); clear hown9 hgrow9 hlies9))
      go_roundw
      case rel => exact ⟨k + 1, _, _, rfl, rfl, by go_num, by omega, Lib.hid ⟨_, _, _, _, _, HP.out.push HB7.out (by rw [HN.out]; exact HO7.out) (by rw [HN.out]; exact HR7.out) (by rw [HN.out]; exact H8.out.1) H8.out.2.1 (lies_own (P := fun g => _ = some g ∨ _ ≤ g) H8.out.2.2) (by rw [HN.out]; exact H9.out.1) H9.out.2.1 (lies_own (P := fun g => _ = some g ∨ _ ≤ g) H9.out.2.2)⟩⟩
      case measure => simp [intOf]; omega
    · have hkN : k = N := by omega
      subst hkN
      have q2 : ¬ (k : Int) < k := by omega
      obtain ⟨A, cl, hal, _, _⟩ := row_form HP.out.lrow HNP.out
      obtain ⟨W, cw, haw, _, _⟩ := row_form HP.out.wrow HNP.out
      subst hal haw
      have HAP := Lib.hid (apart_any k w.heap.size wr A W cl cw X C F Y D col (HP.out.came fun j _ => HFL.out j) hN HNP.out)
      have HBW := Lib.hid HP.out.below
      clear HP
      go_wp2_with fail
      refine HAP.out.mono ?_
      rintro e w5 ⟨rfl, hb5⟩
      have HB5 := Lib.hid (HBW.out.trans hb5)
      go_wp2
      go_ret
      exact ⟨rfl, HB5.out⟩

theorem row_new (W : World) (xs : List ByteArray) (t0 : TypeId) : ∀ k, k < xs.length → (W.alloc (Obj.cells (xs.map Value.string).toArray t0)).cell? ⟨W.heap.size, k, none⟩ = some (.string (xs.getD k ⟨#[]⟩)) := by
  intro k hk
  rw [World.cell?_alloc_at _ _ _ _ rfl]
  simp [List.getD, hk]
theorem parses_lit (xs : List ByteArray) (W : World) (t0 : TypeId) (c : Nat) (hT : Tab W) (hI : MaxI W) (h0 : 0 < xs.length) (h1 : xs.length ≤ 100) (hs : ∀ x ∈ xs, x.size ≤ 4294967280) :
    Calls Tryd.prog 10 #[.slice (some ⟨W.heap.size, 0, none⟩) xs.length c] (W.alloc (Obj.cells (xs.map Value.string).toArray t0)) fun e w' => e = .returned (.bool true) ∧ Below W.heap.size W w' := by
  have hb2 := below_one W (Obj.cells (xs.map Value.string).toArray t0)
  refine (parses_any xs.length W.heap.size c (fun k => xs.getD k ⟨#[]⟩) _ (hT.below hb2) (maxI_below hI hb2) (row_new W xs t0) (fun k hk => ?_) h1 h0).mono ?_
  · have : xs.getD k ⟨#[]⟩ = xs[k] := by simp [List.getD, hk]
    simp only [this]
    exact hs _ (List.getElem_mem hk)
  · rintro e w' ⟨rfl, hb4⟩
    exact ⟨rfl, hb2.trans (hb4.mono hb2.size)⟩
set_option maxHeartbeats 1600000 in
set_option maxRecDepth 100000 in
theorem iniParses_any (s t : ByteArray) (w : World) (hT : Tab w) (hI : MaxI w) (hs : s.size ≤ maxLen) (ht : t.size ≤ maxLen) :
    Calls Tryd.prog 3 #[.string s, .string t] w fun e w' => e = .returned (.bool true) ∧ Below w.heap.size w w' := by
  unfold maxLen at hs ht
  have HAD := Lib.hid (iadd_any s.size t.size w (by omega) (by omega) (by omega) (by omega))
  have hin := addI_in (n := s.size) (m := t.size) (by omega) (by omega)
  have hA : addI s.size t.size ≤ 536870911 → s.size + t.size ≤ 536870911 := by
    unfold addI; split <;> omega
  obtain ⟨A, hAe⟩ : ∃ A, addI s.size t.size = A := ⟨_, rfl⟩
  rw [hAe] at HAD hin hA
  clear hAe
  by_cases hb : 536870911 < A
  · go_enter Tryd.func3, Tryd.ntmps3
    go_wp2_with fail
    refine HAD.out.mono ?_
    rintro e w' ⟨rfl, rfl⟩
    go_wp2
    go_ret
    exact ⟨rfl, Below.refl _ _⟩
  · have hst := hA (by omega)
    have HAW := Lib.hid (iawake_any w hT hI)
    have HPS : Hid (∀ W t0 c, Below w.heap.size w W → Calls Tryd.prog 10 #[.slice (some ⟨W.heap.size, 0, none⟩) 5 c] (W.alloc (Obj.cells ([s, t, s, (s ++ (⟨#[10]⟩ : ByteArray)) ++ t, s ++ t].map Value.string).toArray t0)) fun e w' => e = .returned (.bool true) ∧ Below w.heap.size w w') := Lib.hid fun W t0 c hb => by
      refine (parses_lit [s, t, s, (s ++ (⟨#[10]⟩ : ByteArray)) ++ t, s ++ t] W t0 c (hT.below hb) (maxI_below hI hb) (by simp) (by simp) ?_).mono ?_
      · intro x hx
        have z1 : (⟨#[10]⟩ : ByteArray).size = 1 := rfl
        simp only [List.mem_cons, List.not_mem_nil, or_false] at hx
        rcases hx with rfl | rfl | rfl | rfl | rfl <;> (try simp only [ByteArray.size_append]) <;> omega
      · rintro e w' ⟨rfl, hb4⟩
        exact ⟨rfl, hb.trans (hb4.mono hb.size)⟩
    have zj1 : ¬ 9223372036854775807 < s.size + 1 := by omega
    have zj2 : ¬ 9223372036854775807 < s.size + 1 + t.size := by omega
    have zj3 : ¬ 9223372036854775807 < s.size + t.size := by omega
    clear hT hI hA hst
    go_enter Tryd.func3, Tryd.ntmps3
    go_wp2_with fail
    refine HAD.out.mono ?_
    rintro e w' ⟨rfl, rfl⟩
    go_wp2_with fail
    refine HAW.out.mono ?_
    rintro e w1 ⟨rfl, hb1⟩
    have HB1 := Lib.hid hb1
    clear hb1
    go_wp2_with fail
    refine (HPS.out w1 _ _ HB1.out).mono ?_
    rintro e w2 ⟨rfl, hb2⟩
    go_wp2
    go_ret
    exact ⟨rfl, hb2⟩
end Go.Proofs.YtbpbiakdigjcnaaDoor
