/-
  The walk of the document's own Parse.
-/
import Derived.Test.YtbpbiakdigjcnaaDoorIniRefs3
import Derived.Test.YtbpbiakdigjcnaaDoorIniParse
namespace Go.Proofs.YtbpbiakdigjcnaaDoor
open Go.ChangeShapes Go.WideShapes Go.ChangeAt Go.RowKit

theorem char_is {c : UInt8} {n : Nat} (hn : n < 256) : (c.toNat : Int) = n ↔ c = UInt8.ofNat n := by
  constructor
  · intro e
    apply UInt8.toNat_inj.1
    have : c.toNat = n := by omega
    rw [this]; simp; omega
  · intro e
    rw [e]; simp; omega
theorem says_no1 : says [] = false := rfl
theorem says_head {c : UInt8} {r : List UInt8} : says (c :: r) = !(c == 59 || c == 35) := by
  unfold says
  rw [List.head?_cons, List.isEmpty_cons, Bool.false_or]
  rfl
theorem last_is (t : ByteArray) (h : t.size - 1 < t.size) : t.data.toList.getLast? = some t[t.size - 1] := by
  rw [drop_last t h]; simp
theorem dropLast_is (t : ByteArray) (h : t.size - 1 < t.size) : t.data.toList.dropLast = (t.extract 0 (t.size - 1)).data.toList := by
  conv => lhs; rw [drop_last t h]
  simp
theorem sec_doc {p : List UInt8} : secOf p = if p.getLast? = some 93 ∧ ((decide (p.dropLast.count 46 < 2) && partsB p.dropLast) = true ∨ p.dropLast = []) then some (if p.dropLast = [] then [] else p.dropLast ++ [46]) else none := by
  unfold secOf
  rw [sec_two]
  by_cases h : p.dropLast = []
  · rw [h]; simp
  · have he : p.dropLast.isEmpty = false := by simpa using h
    rw [he, if_neg h]
    simp [h]
theorem empty_bytes {s : ByteArray} (h : s.size = 0) : s = ⟨#[]⟩ := by
  rw [← mkB_self s, show s.data.toList = [] from List.eq_nil_of_length_eq_zero (by rw [show s.data.toList.length = s.size from by simp]; exact h)]; rfl
theorem nonempty_list (s : ByteArray) (h : 0 < s.size) : s.toList.isEmpty = false := by
  rw [toList_eq, drop_first s h]; rfl
/-- A line goes to a list of lines. -/
theorem appendLn {ops : Array Oper} {rest : List Oper} {o : Oper} {a : Act} {Q : Exit → Act → World → Prop} (hgd : o.guard = none) (s x : Operand)
    (ho : o.op = .call { callee := .builtin .append, args := #[s, x], argTypes := #[27, 27] }) {B n : Nat} {w : World} {v : Value} {xs : List Value} (hown : w.ownsRow B 35 3 v n xs) (hB : B ≤ w.heap.size) (hn : n ≤ 1000000) (hs : a.eval s = v) (l : LineV) {t : TypeId} {cs : Array Value} (hcs : cs = #[.string l.name, .string l.text, .int .i64 l.num])
    (hx : a.eval x = .slice (some ⟨w.heap.size, 0, none⟩) 1 1)
    (h : ∀ g cap w', w'.ownsRow B 35 3 (.slice (some ⟨g, 0, none⟩) (n + 1) cap) (n + 1) (xs ++ lCells l) → (w.alloc (Obj.cells cs t)).grownBy w' v.ownBlock → wpList Tryd.prog ops Q rest (a.put o.dst (.slice (some ⟨g, 0, none⟩) (n + 1) cap)) w') :
    wpList Tryd.prog ops Q (o :: rest) a (w.alloc (Obj.cells cs t)) := by
  subst hcs
  obtain ⟨i0, hi, hz0, hz1, hz2⟩ := info_parts infoLine
  refine wpList_append_lies _ hgd s x _ ho B 35 i0 _ 3 40 Tryd.underlying27 hi hz0 hz1 hz2 rfl (by decide) v n xs hs (hown.alloc _) ⟨w.heap.size, 0, none⟩ 1 1 (lCells l) hx rfl (World.news_of_block (heap_alloc_new w _)) (lCells_one _) (by decide) (by unfold maxLen; omega) (by omega) (Nat.le_trans hB (below_one w _).size) _ rfl ?_
  intro g cap w1 h1 h2 _ _
  exact h g cap w1 h1 h2
/-- A list of lines of a call's own. -/
structure OwnLn (w0 w : World) (v : Value) (ls : List LineV) : Prop where
  own : w.ownsRow w0.heap.size 35 3 v ls.length (flatL ls)
  below : Below w0.heap.size w0 w
theorem OwnLn.push {w0 w w' : World} {v v' : Value} {ls : List LineV} {l : LineV} {o : Obj} (h : OwnLn w0 w v ls) (ho : w'.ownsRow w0.heap.size 35 3 v' (ls.length + 1) (flatL ls ++ lCells l)) (hg : (w.alloc o).grownBy w' v.ownBlock) : OwnLn w0 w' v' (ls ++ [l]) :=
  ⟨by rw [List.length_append, flatL_snoc]; exact ho, (h.below.alloc h.below.size _).grown hg (Nat.le_trans h.below.size (below_one w o).size) (fun k hk => (h.own.lt k hk).1)⟩
theorem OwnLn.after {w0 w w' : World} {v : Value} {ls : List LineV} (h : OwnLn w0 w v ls) (hb : Below w.heap.size w w') : OwnLn w0 w' v ls := ⟨set_row h.own hb, h.below.trans (hb.mono h.below.size)⟩

set_option maxHeartbeats 3200000 in
set_option maxRecDepth 100000 in
theorem refParse_any (s : ByteArray) (w : World) (hs : s.size ≤ 4294967280) :
    Calls Tryd.prog 18 #[.string s] w (ParRes w s.data.toList) := by
  have hlen : s.data.toList.length = s.size := by simp
  by_cases hl : 8000 < s.size
  · have HE : Hid (ParRes w s.data.toList (.returned (.tuple #[.slice none 0 0, .int .i64 61, .int .i64 0])) w) := Lib.hid ⟨Below.refl _ _, .slice none 0 0, by unfold parseB; rw [if_pos (by omega)], by unfold parseB; rw [if_pos (by omega)]; exact World.ownsRow_nil _ _ _ _⟩
    have q1 : (8000 : Int) < s.size := by omega
    clear hl hlen hs
    go_enter Tryd.func18, Tryd.ntmps18
    go_wp2
    go_ret3
    exact HE.out
  have hP : parseB s.data.toList = match runB 1 ([], []) (cuts 10 s.data.toList) with
    | .inl n => ([], 60, (n : Int))
    | .inr out => (out, 0, 0) := by
    unfold parseB
    rw [if_neg (by omega)]
    cases runB 1 ([], []) (cuts 10 s.data.toList) <;> rfl
  have HLI := Lib.hid (lines_any s w (by omega))
  have hcl : ∀ x ∈ cuts 10 s.data.toList, x.length ≤ 8000 := fun x hx => Nat.le_trans (cuts_len _ x hx) (by omega)
  have hcc : (cuts 10 s.data.toList).length ≤ 8001 := by
    rw [cuts_count]
    have := List.count_le_length (a := (10 : UInt8)) (l := s.data.toList)
    omega
  obtain ⟨all, hall⟩ : ∃ all, cuts 10 s.data.toList = all := ⟨_, rfl⟩
  rw [hall] at hP HLI hcl hcc
  have HCL := Lib.hid hcl
  have HNO : Hid (∀ (m : Nat) (w' : World), runB 1 ([], []) all = .inl m → Below w.heap.size w w' → ParRes w s.data.toList (.returned (.tuple #[.slice none 0 0, .int .i64 60, .int .i64 (m : Int)])) w') := Lib.hid fun m w' h hb => by
    rw [h] at hP
    exact ⟨hb, .slice none 0 0, by rw [hP], by rw [hP]; exact World.ownsRow_nil _ _ _ _⟩
  have HYE : Hid (∀ (out : List LineV) (v : Value) (w' : World), runB 1 ([], []) all = .inr out → Below w.heap.size w w' → w'.ownsRow w.heap.size 35 3 v out.length (flatL out) → ParRes w s.data.toList (.returned (.tuple #[v, .int .i64 0, .int .i64 0])) w') := Lib.hid fun out v w' h hb ho => by
    rw [h] at hP
    exact ⟨hb, v, by rw [hP], by rw [hP]; exact ho⟩
  have q1 : ¬ (8000 : Int) < s.size := by omega
  obtain ⟨n, hn⟩ : ∃ n, all.length = n := ⟨_, rfl⟩
  have HN := Lib.hid hn
  rw [hn] at hcc
  clear hl hlen hs hP hcl hall hn
  go_enter Tryd.func18, Tryd.ntmps18
  go_wp2_with fail
  refine HLI.out.mono ?_
  rintro e w2 ⟨vl, rfl, hol⟩
  obtain ⟨xl, cl, hv⟩ := own_slice hol.own
  rw [HN.out] at hv
  subst hv
  have HLC : Hid (∀ t (h : t < all.length) W, Below w2.heap.size w2 W → ∃ g, xl = some ⟨g, 0, none⟩ ∧ W.cell? ⟨g, t, none⟩ = some (.string (mkB all[t]))) := Lib.hid fun t h W hb => by
    have hown := hol.own
    rcases hown.2 with ⟨h1, h2⟩ | ⟨g, cap, cur, h1, _, hg, _⟩
    · omega
    · injection h1 with e1 e2 e3
      refine ⟨g, e1, ?_⟩
      have := World.ownsRow.cells hown (g := g) (by rw [e1]; rfl) t (.string (mkB all[t])) (by unfold strL; simp [h])
      rw [add_zero_at] at this
      rw [hb.cell (p := ⟨g, t, none⟩) (Array.getElem?_eq_some_iff.1 hg).1]; exact this
  have HB2 := Lib.hid hol.below
  have H0 : Hid (OwnLn w2 w2 (.slice none 0 0) []) := Lib.hid ⟨World.ownsRow_nil _ _ _ _, Below.refl _ _⟩
  clear hol HLI
  go_wp2
  go_loopw [6, 7, 8] (fun sc v i wr => ∃ (t : Nat) (a : ByteArray) (out : List LineV), sc = .string a ∧ i = .int .i64 t ∧ t ≤ n ∧ a.size ≤ 8001 ∧ out.length ≤ t ∧ Hid (OwnLn w2 wr v out) ∧ Hid (Ahead a.data.toList) ∧ Hid (runB 1 ([], []) all = runB (t + 1) (a.data.toList, out) (all.drop t))) (fun _ _ i _ => n - (intOf i).toNat)
  case atStart => exact ⟨0, ⟨#[]⟩, [], rfl, rfl, by omega, by decide, by simp, H0, Lib.hid (Or.inl rfl), Lib.hid rfl⟩
  case round =>
    clear H0
    obtain ⟨t, a, out, rfl, rfl, ht, ha, ho, HO, HA, HR⟩ := hrel
    by_cases hlt : t < n
    · have htx : t < all.length := by rw [HN.out]; exact hlt
      obtain ⟨g, rfl, hcell⟩ := HLC.out t htx wr HO.out.below
      have hx := HCL.out _ (List.getElem_mem htx)
      have HR2 := Lib.hid (HR.out.trans (run_step (st := (a.data.toList, out)) htx))
      have htr := trimmed_any (mkB all[t]) wr (by rw [len_mkB]; omega)
      rw [mkB_data] at htr
      have HTR := Lib.hid htr
      have htl := trimB_len all[t]
      have htt := trimB_tight all[t]
      obtain ⟨X, hX⟩ : ∃ X, mkB (trimB all[t]) = X := ⟨_, rfl⟩
      have hXd : trimB all[t] = X.data.toList := by rw [← hX, mkB_data]
      rw [hX] at HTR
      rw [hXd] at HR2 htl htt
      generalize mkB all[t] = L at hcell HTR
      have hXl : X.data.toList.length = X.size := by simp
      have hXs : X.size ≤ 8000 := by omega
      have HTT := Lib.hid htt
      have q2 : (0 : Int) ≤ t := by omega
      have q3 : (t : Int) < n := by omega
      clear hx htr htl htt hX hXd hXl htx HR HLC
      by_cases he : X.size = 0
      · obtain rfl := empty_bytes he
        have HN2 : Hid (runB 1 ([], []) all = runB (t + 1 + 1) (a.data.toList, out) (all.drop (t + 1))) := Lib.hid (by rw [HR2.out, step_no says_no1])
        clear he
        go_wp2_with fail
        refine HTR.out.mono ?_
        rintro e w' ⟨rfl, rfl⟩
        go_wp2
        go_roundw
        case rel => exact ⟨t + 1, a, out, rfl, by go_num, by omega, ha, by omega, HO, HA, HN2⟩
        case measure => simp [intOf]; omega
      have h0 : 0 < X.size := by omega
      have hb := byte_le X 0 h0
      have d0 := nonempty_list X h0
      have HD := Lib.hid (drop_first X h0)
      by_cases h59 : (X[0].toNat : Int) = 59
      · have HN2 : Hid (runB 1 ([], []) all = runB (t + 1 + 1) (a.data.toList, out) (all.drop (t + 1))) := Lib.hid (by rw [HR2.out, step_no (by rw [HD.out, says_head, (char_is (n := 59) (by decide)).1 h59]; rfl)])
        have d1 := beq_iff_eq.2 h59
        clear he h59
        go_wp2_with fail
        refine HTR.out.mono ?_
        rintro e w' ⟨rfl, rfl⟩
        go_wp2
        go_roundw
        case rel => exact ⟨t + 1, a, out, rfl, by go_num, by omega, ha, by omega, HO, HA, HN2⟩
        case measure => simp [intOf]; omega
      have d1 := beq_eq_false_iff_ne.2 h59
      by_cases h35 : (X[0].toNat : Int) = 35
      · have HN2 : Hid (runB 1 ([], []) all = runB (t + 1 + 1) (a.data.toList, out) (all.drop (t + 1))) := Lib.hid (by rw [HR2.out, step_no (by rw [HD.out, says_head, (char_is (n := 35) (by decide)).1 h35]; rfl)])
        have d2 := beq_iff_eq.2 h35
        clear he h59 h35
        go_wp2_with fail
        refine HTR.out.mono ?_
        rintro e w' ⟨rfl, rfl⟩
        go_wp2
        go_roundw
        case rel => exact ⟨t + 1, a, out, rfl, by go_num, by omega, ha, by omega, HO, HA, HN2⟩
        case measure => simp [intOf]; omega
      have d2 := beq_eq_false_iff_ne.2 h35
      have HSY : Hid (says X.data.toList = true) := Lib.hid (by
        rw [HD.out, says_head]
        have e1 : (X[0] == (59 : UInt8)) = false := beq_eq_false_iff_ne.2 (fun e => h59 ((char_is (n := 59) (by decide)).2 e))
        have e2 : (X[0] == (35 : UInt8)) = false := beq_eq_false_iff_ne.2 (fun e => h35 ((char_is (n := 35) (by decide)).2 e))
        rw [e1, e2]; rfl)
      clear he h59 h35
      by_cases h91 : (X[0].toNat : Int) = 91
      · have d3 := beq_iff_eq.2 h91
        have HH : Hid (X.data.toList.head? = some 91) := Lib.hid (by rw [HD.out, List.head?_cons, (char_is (n := 91) (by decide)).1 h91]; rfl)
        have HR3 := Lib.hid (by
          have h := HR2.out
          rw [step_sec HSY.out HH.out, show X.data.toList.drop 1 = (X.extract 1 X.size).data.toList by rw [Lib.extract_to_end]] at h
          exact h)
        have hPs : (X.extract 1 X.size).size = X.size - 1 := by simp
        obtain ⟨P, hP⟩ : ∃ P, X.extract 1 X.size = P := ⟨_, rfl⟩
        have HPE := Lib.hid hP
        rw [hP] at HR3 hPs
        have hPz : P.size ≤ 8000 := by omega
        clear h91 hP hPs HR2 HSY HH HD
        by_cases hp0 : P.size = 0
        · have HN2 : Hid (runB 1 ([], []) all = .inl (t + 1)) := Lib.hid (by
            rw [HR3.out, empty_bytes hp0]; rfl)
          have HF := Lib.hid (HNO.out _ _ HN2.out (HB2.out.trans (HO.out.below.mono HB2.out.size)))
          have hPe := empty_bytes hp0
          have hsl : ∀ W : World, (Instr.slice 9 (.string X) (some (.int .i64 1)) none none).run Tryd.prog W = .ok (.string ⟨#[]⟩) W := fun W => by
            rw [run_slice_string_from_if (h := Tryd.underlying9), if_pos (by omega), ← hPe, ← HPE.out]; rfl
          clear hp0 hPe
          go_wp2_with fail
          refine HTR.out.mono ?_
          rintro e w' ⟨rfl, rfl⟩
          go_wp2
          go_ret3
          exact HF.out
        · have p1 : P.size - 1 < P.size := by omega
          have p2 : ((P.size : Int) - 1).toNat = P.size - 1 := by omega
          have hsl : ∀ W : World, (Instr.slice 9 (.string X) (some (.int .i64 1)) none none).run Tryd.prog W = .ok (.string P) W := fun W => by
            rw [run_slice_string_from_if (h := Tryd.underlying9), if_pos (by omega), ← HPE.out]; rfl
          have e0 := nonempty_list P (by omega)
          have hbP := byte_le P (P.size - 1) p1
          have hPlast := last_is P p1
          by_cases h93 : (P[P.size - 1].toNat : Int) = 93
          · have d4 := ne_false h93
            have hsl2 : ∀ W : World, (Instr.slice 9 (.string P) none (some (.int .i64 ((P.size : Int) - 1))) none).run Tryd.prog W = .ok (.string (P.extract 0 (P.size - 1))) W := fun W => by
              rw [run_slice_string_to_if (h := Tryd.underlying9), if_pos (by omega)]
              congr 3
            have HQD := Lib.hid (dropLast_is P p1)
            have hQs : (P.extract 0 (P.size - 1)).size = P.size - 1 := by simp
            obtain ⟨Q, hQ⟩ : ∃ Q, P.extract 0 (P.size - 1) = Q := ⟨_, rfl⟩
            rw [hQ] at hsl2 HQD hQs
            have hQz : Q.size ≤ 8000 := by omega
            clear hQs
            have HLA : Hid (P.data.toList.getLast? = some 93) := Lib.hid (by rw [hPlast, (char_is (n := 93) (by decide)).1 h93]; rfl)
            have HR4 := Lib.hid (by
              have h := HR3.out
              rw [sec_doc, HQD.out] at h
              exact h)
            have HTW := Lib.hid (two_any Q wr (by omega))
            clear h93 hPlast hQ HR3 HQD
            obtain ⟨b, hbb⟩ : ∃ b, (decide (Q.data.toList.count 46 < 2) && partsB Q.data.toList) = b := ⟨_, rfl⟩
            rw [hbb] at HR4 HTW
            clear hbb
            by_cases hq0 : Q.size = 0
            · obtain rfl := empty_bytes hq0
              have HN2 : Hid (runB 1 ([], []) all = runB (t + 1 + 1) ((⟨#[]⟩ : ByteArray).data.toList, out) (all.drop (t + 1))) := Lib.hid (by
                rw [HR4.out, if_pos ⟨HLA.out, Or.inr rfl⟩, if_pos rfl]; rfl)
              clear hq0
              go_wp2_with fail
              refine HTR.out.mono ?_
              rintro e w' ⟨rfl, rfl⟩
              go_wp2_with fail
              refine HTW.out.mono ?_
              rintro e w' ⟨rfl, rfl⟩
              cases b
              all_goals
                go_wp2
                go_roundw
                case rel => exact ⟨t + 1, ⟨#[]⟩, out, rfl, by go_num, by omega, by decide, by omega, HO, Lib.hid (Or.inl rfl), HN2⟩
                case measure => simp [intOf]; omega
            · have f0 := nonempty_list Q (by omega)
              have hqn : Q.data.toList ≠ [] := fun e => hq0 (by rw [show Q.size = Q.data.toList.length from by simp, e]; rfl)
              cases b with
              | true =>
                have HN2 : Hid (runB 1 ([], []) all = runB (t + 1 + 1) ((Q ++ (⟨#[46]⟩ : ByteArray)).data.toList, out) (all.drop (t + 1))) := Lib.hid (by
                  rw [HR4.out, if_pos ⟨HLA.out, Or.inl rfl⟩, if_neg hqn]
                  have : (Q ++ (⟨#[46]⟩ : ByteArray)).data.toList = Q.data.toList ++ [46] := by simp
                  rw [this]; rfl)
                have HA2 : Hid (Ahead (Q ++ (⟨#[46]⟩ : ByteArray)).data.toList) := Lib.hid (Or.inr ⟨Q.data.toList, by simp⟩)
                have HZ : Hid ((Q ++ (⟨#[46]⟩ : ByteArray)).size ≤ 8001) := Lib.hid (by
                  have : (Q ++ (⟨#[46]⟩ : ByteArray)).size = Q.size + 1 := by rw [ByteArray.size_append]; rfl
                  omega)
                have zj : ¬ 9223372036854775807 < Q.size + (⟨#[46]⟩ : ByteArray).size := by
                  have : (⟨#[46]⟩ : ByteArray).size = 1 := rfl
                  omega
                clear hq0 hqn
                go_wp2_with fail
                refine HTR.out.mono ?_
                rintro e w' ⟨rfl, rfl⟩
                go_wp2_with fail
                refine HTW.out.mono ?_
                rintro e w' ⟨rfl, rfl⟩
                go_wp2
                go_roundw
                case rel => exact ⟨t + 1, _, out, rfl, by go_num, by omega, HZ.out, by omega, HO, HA2, HN2⟩
                case measure => simp [intOf]; omega
              | false =>
                have HN2 : Hid (runB 1 ([], []) all = .inl (t + 1)) := Lib.hid (by
                  rw [HR4.out, if_neg (fun h => by rcases h.2 with h | h; · cases h
                                                   · exact hqn h)]; rfl)
                have HF := Lib.hid (HNO.out _ _ HN2.out (HB2.out.trans (HO.out.below.mono HB2.out.size)))
                clear hq0 hqn
                go_wp2_with fail
                refine HTR.out.mono ?_
                rintro e w' ⟨rfl, rfl⟩
                go_wp2_with fail
                refine HTW.out.mono ?_
                rintro e w' ⟨rfl, rfl⟩
                go_wp2
                go_ret3
                exact HF.out
          · have d4 := ne_true h93
            have HN2 : Hid (runB 1 ([], []) all = .inl (t + 1)) := Lib.hid (by
              rw [HR3.out, sec_doc, if_neg (fun h => h93 (by
                have := hPlast.symm.trans h.1
                rw [Option.some.inj this]; rfl))]; rfl)
            have HF := Lib.hid (HNO.out _ _ HN2.out (HB2.out.trans (HO.out.below.mono HB2.out.size)))
            clear h93 hPlast
            go_wp2_with fail
            refine HTR.out.mono ?_
            rintro e w' ⟨rfl, rfl⟩
            go_wp2
            go_ret3
            exact HF.out
      · have d3 := beq_eq_false_iff_ne.2 h91
        have HGV := Lib.hid (given_any a X wr (by omega) (by omega))
        have HR3 := Lib.hid (by
          have h := HR2.out
          rw [doc_given HTT.out HA.out HSY.out (by rw [HD.out, List.head?_cons]; intro e; exact h91 ((char_is (n := 91) (by decide)).2 (Option.some.inj e)))] at h
          exact h)
        obtain ⟨D, hD⟩ : ∃ D, docGiven a.data.toList X.data.toList = D := ⟨_, rfl⟩
        rw [hD] at HGV HR3
        obtain ⟨dn, dt, dk⟩ := D
        simp only at HGV HR3
        have HTH : Hid (∀ x c W, Lns W x out → Calls Tryd.prog 21 #[.slice x out.length c, .string (mkB dn)] W fun e w' => e = .returned (.bool (givenB out dn)) ∧ W = w') := Lib.hid fun x c W h => by
          have := there_any x c out (mkB dn) W h (by omega)
          rw [mkB_data] at this
          exact this
        clear h91 hD HR2 HSY HD HTT
        have HLN : Hid (∀ W, Below wr.heap.size wr W → ∃ x c, _ = Value.slice x out.length c ∧ Lns W x out) := Lib.hid fun W hb => Lns.of_own (HO.out.after hb).own rfl
        obtain ⟨ox, oc, hov, _⟩ := HLN.out wr (Below.refl _ _)
        subst hov
        have HLN2 : Hid (∀ W, Below wr.heap.size wr W → Lns W ox out) := Lib.hid fun W hb => by
          obtain ⟨x, c, e, h⟩ := HLN.out W hb
          injection e with e1 e2 e3
          subst e1
          exact h
        obtain ⟨no, hno⟩ : ∃ no, out.length = no := ⟨_, rfl⟩
        rw [hno] at HTH ho
        rw [hno] at HO ⊢
        have HNO2 := Lib.hid hno
        clear HLN hno
        obtain ⟨nB, hnB⟩ : ∃ nB, mkB dn = nB := ⟨_, rfl⟩
        obtain ⟨tB, htB⟩ : ∃ tB, mkB dt = tB := ⟨_, rfl⟩
        rw [hnB] at HGV HTH HR3
        rw [htB] at HGV HR3
        have HNB := Lib.hid hnB
        clear hnB htB
        go_wp2_with fail
        refine HTR.out.mono ?_
        rintro e w' ⟨rfl, rfl⟩
        go_wp2_with fail
        refine HGV.out.mono ?_
        rintro e w5 ⟨rfl, hb5⟩
        have HO5 := Lib.hid (HO.out.after hb5)
        have HL5 := Lib.hid (HLN2.out _ hb5)
        clear hb5
        go_wp2_with fail
        refine (HTH.out _ _ _ HL5.out).mono ?_
        rintro e w' ⟨rfl, rfl⟩
        have HBW := Lib.hid (HB2.out.trans (HO5.out.below.mono HB2.out.size))
        cases dk with
        | false =>
          have HN2 : Hid (runB 1 ([], []) all = .inl (t + 1)) := Lib.hid (by rw [HR3.out, if_neg (fun h => by cases h.1)])
          have HF := Lib.hid (HNO.out _ _ HN2.out HBW.out)
          go_wp2
          go_ret3
          exact HF.out
        | true =>
          cases hgb : givenB out dn with
          | true =>
            have HN2 : Hid (runB 1 ([], []) all = .inl (t + 1)) := Lib.hid (by rw [HR3.out, if_neg (fun h => by rw [hgb] at h; cases h.2)])
            have HF := Lib.hid (HNO.out _ _ HN2.out HBW.out)
            clear hgb
            go_wp2
            go_ret3
            exact HF.out
          | false =>
            have HN2 : Hid (runB 1 ([], []) all = runB (t + 1 + 1) (a.data.toList, out ++ [⟨nB, tB, ((t + 1 : Nat) : Int)⟩]) (all.drop (t + 1))) := Lib.hid (by rw [HR3.out, if_pos ⟨rfl, hgb⟩])
            have HOW : Hid (w5.ownsRow w2.heap.size 35 3 (.slice ox no oc) no (flatL out)) := Lib.hid (by have h := HO5.out.own; rw [HNO2.out] at h; exact h)
            clear hgb
            go_wp2_with (at_builtin; refine appendLn rfl _ _ rfl HOW.out HO5.out.below.size (by omega) rfl ⟨nB, tB, (t : Int) + 1⟩ rfl rfl ?_; intro g cap w6 hown hgrow; have HO6 : Hid (OwnLn w2 w6 _ (out ++ [⟨nB, tB, (t : Int) + 1⟩])) := Lib.hid (HO5.out.push (by rw [HNO2.out]; exact hown) hgrow); clear hown hgrow)
            go_roundw
            case rel => exact ⟨t + 1, a, _, rfl, by go_num, by omega, ha, by simp; have := HNO2.out; omega, HO6, HA, HN2⟩
            case measure => simp [intOf]; omega
    · have e : t = n := by omega
      subst e
      have q2 : ¬ (t : Int) < t := by omega
      obtain ⟨ox, oc, hov⟩ := own_slice HO.out.own
      have HF := Lib.hid (HYE.out out _ _ (by rw [HR.out, List.drop_eq_nil_of_le (by rw [HN.out]; omega)]; rfl) (HB2.out.trans (HO.out.below.mono HB2.out.size)) (own_less HO.out.own HB2.out.size))
      subst hov
      go_wp2
      go_ret3
      exact HF.out
end Go.Proofs.YtbpbiakdigjcnaaDoor
