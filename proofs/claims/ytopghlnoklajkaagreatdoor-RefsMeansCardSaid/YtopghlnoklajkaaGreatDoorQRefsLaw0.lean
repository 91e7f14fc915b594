/-
  RefsMeanM, RefsStd, RefsAwake, RefsLaw0.
-/
import Derived.Test.YtopghlnoklajkaaGreatDoorQRefsShow
import Derived.Test.YtopghlnoklajkaaGreatDoorQRefsXp
import Derived.Test.YtopghlnoklajkaaGreatDoorQKeyRefs
import Derived.Test.YtopghlnoklajkaaGreatDoorQKeyFinds
import Derived.Test.YtopghlnoklajkaaGreatDoorQLayGet
import Derived.Test.YtopghlnoklajkaaGreatDoorQRefsNmW
import Derived.Test.YtopghlnoklajkaaGreatDoorQTxKit
import Derived.Laws.StructEq
import Derived.Deep.RegionHeld3
namespace Go.Proofs.YtopghlnoklajkaaGreatDoor

def noD (s : List UInt8) : Bool := s.all fun c => c != 36
theorem noD_iff (s : List UInt8) : noD s = true ↔ ∀ c ∈ s, c ≠ 36 := by unfold noD; rw [List.all_eq_true]; simp
theorem noD_append (a b : List UInt8) : noD (a ++ b) = (noD a && noD b) := by unfold noD; exact List.all_append ..
theorem digits_noD (n : Nat) : noD (Lib.decDigits n) = true := by
  rw [noD_iff]
  intro c hc e
  have := List.all_eq_true.1 (digits_all n) c hc
  unfold isD at this
  subst e
  revert this
  decide
theorem itoa_noD (n : Int) : noD (Lib.itoa n) = true := by
  unfold Lib.itoa
  split
  · rw [noD_iff]
    intro c hc
    rcases List.mem_cons.1 hc with rfl | hc
    · decide
    · exact (noD_iff _).1 (digits_noD _) c hc
  · exact digits_noD _
theorem unit_noD (k n : Int) : noD (unitFor k n).2 = true := by
  unfold unitFor
  repeat' split
  all_goals decide
theorem join_noD (v : List ByteArray) (h : allWords (wl v) = true) : noD (joinW v) = true := by
  unfold joinW
  have key : ∀ l : List (List UInt8), allWords l = true → ∀ w ∈ l, noD w = true := fun l hl w hw => by
    have h1 := List.all_eq_true.1 hl w hw
    unfold wordB allWord at h1
    simp only [Bool.and_eq_true] at h1
    rw [noD_iff]
    intro c hc e
    have h2 := List.all_eq_true.1 h1.2 c hc
    subst e
    revert h2
    decide
  generalize wl v = l at h
  have k := key l h
  clear key h
  cases l with
  | nil => rfl
  | cons a r =>
    rw [Lib.join_cons, noD_append, k a (List.mem_cons_self ..), Bool.true_and]
    have k2 : ∀ w ∈ r, noD w = true := fun w hw => k w (List.mem_cons_of_mem _ hw)
    clear k
    induction r with
    | nil => rfl
    | cons b r ih =>
      have e : Lib.joinTail [44] (b :: r) = ([44] ++ b) ++ Lib.joinTail [44] r := rfl
      rw [e, noD_append, noD_append, k2 b (List.mem_cons_self ..), ih fun w hw => k2 w (List.mem_cons_of_mem _ hw)]
      decide
theorem print_noD {v : Val} (h : rightV v = true) (h5 : v.kind ≠ 5) : noD (printV v) = true := by
  obtain ⟨k, n, t, ws⟩ := v
  unfold rightV at h
  unfold printV
  simp only at h h5 ⊢
  split at h
  · rename_i hk; rw [if_pos hk]; split <;> decide
  · rename_i h1
    rw [if_neg h1]
    split at h
    · rename_i hk; rw [if_pos hk]; exact itoa_noD _
    · rename_i h2
      rw [if_neg h2]
      split at h
      · rename_i hk
        rw [if_pos hk, noD_append, itoa_noD, unit_noD]; rfl
      · rename_i h3
        rw [if_neg h3, if_neg h5]
        split at h
        · simp only [Bool.and_eq_true, decide_eq_true_eq, wordsRight] at h
          exact join_noD _ h.2.1.2
        · cases h
theorem scanB_noD : ∀ (r b : List UInt8) (l : List PcB), noD r = true → scanB r b l = some (l ++ [(b ++ r, false)]) := by
  intro r
  induction r with
  | nil => intro b l _; rw [scanB_nil, List.append_nil]
  | cons c r ih =>
    intro b l h
    rw [noD_iff] at h
    rw [scanB_byte (h c (List.mem_cons_self ..)), ih _ _ ((noD_iff _).2 fun d hd => h d (List.mem_cons_of_mem _ hd))]
    simp
theorem pieces_noD {s : List UInt8} (h : noD s = true) : piecesB s = some [(s, false)] := by unfold piecesB; rw [scanB_noD s [] [] h]; rfl
section
variable {ms ms' : List SetM}
/-- Where nothing is wrong, expansions are those of their pieces. -/
theorem Ex_is (hw : wrongE ms = none) {i : Nat} (hi : i < ms.length) : Ex ms i = (Px ms i).flatMap (pieceX (plO (namesM ms)) (Ex ms)) := by
  have hn : fName ms = none ∧ fLoop ms = none := by
    unfold wrongE at hw
    repeat' split at hw
    all_goals first | exact ⟨by assumption, by assumption⟩ | cases hw
  refine expB_is (fun i hi k hk => inside hn.1 i hi k hk) (fun i hi hl => ?_) hi
  have := firstB_no hn.2 i hi
  simp only [decide_eq_false_iff_not] at this
  exact this hl
theorem wrong_none (hw : wrongE ms = none) : fBad ms = none ∧ fName ms = none := by
  unfold wrongE at hw
  repeat' split at hw
  all_goals first | exact ⟨by assumption, by assumption⟩ | cases hw
/-- What is printed of an expanded setting is its expansion. -/
theorem Tx_exp (hw : wrongE ms = none) (hr : ∀ m ∈ ms, rightV m.x.val = true) (hr' : ∀ m ∈ ms', rightV m.x.val = true) (hl : ms'.length = ms.length) (hx : ∀ j (h1 : j < ms'.length) (h2 : j < ms.length), ms'[j].x = expS ms j ms[j].x) {j : Nat} (hj : j < ms.length) : Tx ms' j = Ex ms j := by
  have hj' : j < ms'.length := by omega
  have hR' := hr' _ (List.getElem_mem hj')
  have hR := hr _ (List.getElem_mem hj)
  rw [Tx_at hj']
  rw [hx j hj' hj] at hR' ⊢
  unfold printR
  rw [hR']
  by_cases h5 : ms[j].x.val.kind = 5
  · unfold expS
    rw [if_pos h5]
    show printV ⟨5, 0, mkB (Ex ms j), []⟩ = Ex ms j
    unfold printV
    simp only
    rw [if_neg (by decide), if_neg (by decide), if_neg (by decide), if_pos trivial]
    rfl
  · have e : expS ms j ms[j].x = ms[j].x := by unfold expS; rw [if_neg h5]
    rw [e]
    have hT : Tx ms j = printV ms[j].x.val := by rw [Tx_at hj]; unfold printR; rw [hR]; rfl
    have hP : Px ms j = [(printV ms[j].x.val, false)] := by unfold Px; rw [hT, pieces_noD (print_noD hR h5)]; rfl
    rw [Ex_is hw hj, hP]
    simp [pieceX]
/-- The text of a setting, with what it speaks of as it was expanded. -/
theorem mean_is (hw : wrongE ms = none) (hr : ∀ m ∈ ms, rightV m.x.val = true) (hr' : ∀ m ∈ ms', rightV m.x.val = true) (hl : ms'.length = ms.length) (hx : ∀ j (h1 : j < ms'.length) (h2 : j < ms.length), ms'[j].x = expS ms j ms[j].x) {i : Nat} (hi : i < ms.length) :
    (Px ms i).flatMap (pieceX (plO (namesM ms)) (Tx ms')) = Ex ms i := by
  rw [Ex_is hw hi]
  refine flatMap_same fun p hp => ?_
  unfold pieceX
  by_cases h : p.2 = true
  · rw [if_pos h, if_pos h]
    cases hk : plO (namesM ms) p.1 with
    | none => rfl
    | some k => exact Tx_exp hw hr hr' hl hx (inside (wrong_none hw).2 i hi k (mem_scP hp h hk))
  · rw [if_neg h, if_neg h]
theorem names_exp (hl : ms'.length = ms.length) (hx : ∀ j (h1 : j < ms'.length) (h2 : j < ms.length), ms'[j].x = expS ms j ms[j].x) : namesM ms' = namesM ms := by
  unfold namesM
  refine List.ext_getElem (by simp [hl]) fun j a b => ?_
  rw [List.getElem_map, List.getElem_map, hx j (by simpa using a) (by simpa using b)]
  exact expS_name _ _ _
/-- Of a text that may be, the setting with its expansion is just the expanded one. -/
theorem expS_text {x : SetV} {i : Nat} (hr : rightV x.val = true) (h5 : x.val.kind = 5) : (⟨x.name, ⟨x.val.kind, x.val.int, mkB (Ex ms i), x.val.words⟩, x.from_⟩ : SetV) = expS ms i x := by
  unfold expS
  rw [if_pos h5]
  obtain ⟨nm, ⟨k, n, t, ws⟩, fr⟩ := x
  unfold rightV at hr
  simp only at h5 hr ⊢
  subst h5
  rw [if_neg (by decide), if_neg (by decide), if_neg (by decide), if_pos rfl] at hr
  simp only [Bool.and_eq_true, decide_eq_true_eq] at hr
  obtain ⟨⟨h1, _⟩, h3⟩ := hr
  have : ws = [] := List.eq_nil_of_length_eq_zero h3
  subst this h1
  rfl
end
end Go.Proofs.YtopghlnoklajkaaGreatDoor

namespace Go.Proofs.YtopghlnoklajkaaGreatDoor

theorem GoodK.nil_ : GoodK [] := ⟨fun _ b hb => absurd hb (Nat.not_lt_zero b), Nat.zero_le _, fun _ hk => absurd hk List.not_mem_nil, fun _ hk => absurd hk List.not_mem_nil, fun _ hk => absurd hk List.not_mem_nil⟩
theorem GoodK.add {xs : List KeyV} (h : GoodK xs) {k : KeyV} (hk : Small k) : GoodK (addK xs k) := by
  refine ⟨addK_sorted k h.sorted, addK_len xs k h.len, ?_, ?_, ?_⟩
  all_goals
    intro x hx
    unfold addK at hx
    split at hx
    · rename_i h0
      unfold insK at hx
      have hmem : x ∈ xs ∨ x = k := by
        rcases List.mem_append.1 hx with hx | hx
        · exact .inl (List.mem_of_mem_take hx)
        · rcases List.mem_cons.1 hx with rfl | hx
          · exact .inr rfl
          · exact .inl (List.mem_of_mem_drop hx)
      rcases hmem with hm | rfl
      · first | exact h.form x hm | exact h.dflt x hm | exact h.small x hm
      · unfold addE at h0
        split at h0
        · exact absurd h0 (by decide)
        · split at h0
          · exact absurd h0 (by decide)
          · rename_i h1 h2
            first | exact hk | (simpa using h1) | (simpa using h2)
    · first | exact h.form x hx | exact h.dflt x hx | exact h.small x hx
theorem GoodK.fold : ∀ (l : List KeyV) (xs : List KeyV), GoodK xs → (∀ k ∈ l, Small k) → GoodK (l.foldl addK xs) := by
  intro l
  induction l with
  | nil => intro xs h _; exact h
  | cons k r ih => intro xs h hs; exact ih _ (h.add (hs k (List.mem_cons_self ..))) fun x hx => hs x (List.mem_cons_of_mem _ hx)
theorem sx_good : GoodK stdL := by
  rw [← std_fold]
  refine GoodK.fold _ _ GoodK.nil_ fun k hk => ?_
  rcases List.mem_append.1 hk with hk | hk
  · rcases List.mem_append.1 hk with hk | hk
    · exact (std_small netL (by simp)).2 k hk
    · exact (std_small logL (by simp)).2 k hk
  · exact (std_small sbL (by simp)).2 k hk
/-- Settings of a set that was filled may be expanded. -/
theorem made_ms {ks : List KeyV} {ms : List SetM} (hG : GoodK ks) (h : LayOk ks ms) : MsOk ms := by
  have hnm : ∀ i (hi : i < (namesM ms).length), ∃ h2 : i < ks.length, (namesM ms)[i] = (ks[i]'h2).name := fun i hi => by
    have h1 : i < ms.length := by unfold namesM at hi; rw [List.length_map] at hi; exact hi
    have h2 : i < ks.length := by rw [← h.len]; exact h1
    refine ⟨h2, ?_⟩
    have := h.names i h1 h2
    simp only [namesM, List.getElem_map]
    exact this
  have hform : ∀ s ∈ namesM ms, nameB s.data.toList = true := fun s hs => by
    obtain ⟨i, hi, rfl⟩ := List.getElem_of_mem hs
    obtain ⟨h2, e⟩ := hnm i hi
    rw [e]
    have := hG.form _ (List.getElem_mem h2)
    unfold formK at this
    simp only [Bool.and_eq_true] at this
    exact this.1
  refine ⟨fun i j hi hj he => ?_, fun s hs => ?_, fun s hs he => ?_, h.right, by rw [h.len]; have := hG.len; omega⟩
  · obtain ⟨h1, e1⟩ := hnm i hi
    obtain ⟨h2, e2⟩ := hnm j hj
    rw [e1, e2] at he
    rcases Nat.lt_trichotomy i j with hlt | rfl | hlt
    · have := hG.sorted i j h2 hlt
      rw [he] at this
      exact absurd this (by rw [cmpB_refl]; omega)
    · rfl
    · have := hG.sorted j i h1 hlt
      rw [he] at this
      exact absurd this (by rw [cmpB_refl]; omega)
  · have := hform s hs
    unfold nameB at this
    simp only [Bool.and_eq_true, decide_eq_true_eq] at this
    have e : s.data.toList.length = s.size := Array.length_toList
    omega
  · have := hform s hs
    rw [he] at this
    exact absurd this (by decide)
def stdM : List SetM := stdL.map fun k => ⟨dfltS k, none, 0⟩
theorem sx_pieces : ((List.range 16).all fun i => (piecesB (Tx stdM i)).isSome) = true := by kernel_rfl
theorem sx_names : ((List.range 16).all fun i => (namesL (Px stdM i)).all fun nm => (plO (namesM stdM) nm).isSome) = true := by kernel_rfl
theorem sx_flat : ((List.range 16).all fun i => (scP (Px stdM) (plO (namesM stdM)) i).all fun k => (scP (Px stdM) (plO (namesM stdM)) k).isEmpty) = true := by kernel_rfl
theorem sx_short : ((List.range 16).all fun i => decide ((Ex stdM i).length ≤ 200)) = true := by kernel_rfl
theorem sx_url : Ex stdM 11 = [104, 116, 116, 112, 58, 47, 47, 108, 111, 99, 97, 108, 104, 111, 115, 116, 58, 56, 48, 56, 48] := by kernel_rfl
theorem sx_len : stdM.length = 16 := by kernel_rfl
/-- Where all that is spoken of speaks of nothing, nothing leads to itself. -/
theorem flat_lead {sc : Nat → List Nat} {n : Nat} (h : ∀ i, i < n → ∀ k ∈ sc i, sc k = []) {i : Nat} (hi : i < n) : ¬ Lead sc i i := fun hl => by
  cases hl with
  | one hk => have := h i hi i hk; rw [this] at hk; cases hk
  | more hk h2 =>
    have he := h i hi _ hk
    cases h2 with
    | one h3 => rw [he] at h3; cases h3
    | more h3 _ => rw [he] at h3; cases h3
theorem sx_right : wrongE stdM = none := by
  have key : ∀ {p : Nat → Bool}, (List.range 16).all p = true → ∀ i, i < stdM.length → p i = true := fun h i hi => List.all_eq_true.1 h i (by rw [sx_len] at hi; exact List.mem_range.2 hi)
  have h1 : fBad stdM = none := firstB_none fun i hi => by
    have := key sx_pieces i hi
    cases hp : piecesB (Tx stdM i) with
    | none => simp only [hp] at this; cases this
    | some l => rfl
  have h2 : fName stdM = none := firstB_none fun i hi => by
    have := List.all_eq_true.1 (key sx_names i hi)
    rw [List.any_eq_false]
    intro nm hn
    have := this nm hn
    cases hp : plO (namesM stdM) nm with
    | none => rw [hp] at this; cases this
    | some l => simp
  have h3 : fLoop stdM = none := firstB_none fun i hi => by
    have : ¬ Lead (scP (Px stdM) (plO (namesM stdM))) i i := flat_lead (n := stdM.length) (fun j hj k hk => by
      have := List.all_eq_true.1 (key sx_flat j hj) k hk
      exact List.isEmpty_iff.1 this) hi
    simpa using this
  have h4 : fLong stdM = none := firstB_none fun i hi => by
    have := key sx_short i hi
    simp only [decide_eq_true_eq] at this
    simp only [decide_eq_false_iff_not]
    omega
  unfold wrongE
  rw [h1, h2, h3, h4]
end Go.Proofs.YtopghlnoklajkaaGreatDoor

namespace Go.Proofs.YtopghlnoklajkaaGreatDoor
open Go.ChangeShapes Go.WideShapes Go.ChangeAt Go.RowKit

theorem aw1 : namesB (ByteArray.mk #[104, 116, 116, 112, 58, 47, 47, 36, 123, 110, 101, 116, 46, 104, 111, 115, 116, 125, 58, 36, 123, 110, 101, 116, 46, 112, 111, 114, 116, 125, 47, 36, 36, 36, 123, 110, 101, 116, 46, 104, 111, 115, 116, 125]).data.toList = ([[110, 101, 116, 46, 104, 111, 115, 116], [110, 101, 116, 46, 112, 111, 114, 116]], 0) := by kernel_rfl
theorem aw2 : namesB (ByteArray.mk #[36, 120]).data.toList = ([], 100) := by kernel_rfl
theorem aw3 : placeN (stdL.map (·.name)) ⟨#[110, 101, 116, 46, 117, 114, 108]⟩ = 11 := by kernel_rfl
theorem std_map {ms : List SetM} (h : ms.map (·.x) = stdL.map dfltS) : ms.map (·.x) = stdM.map (·.x) := by
  rw [h]; unfold stdM; rw [List.map_map]; rfl
/-- The standard settings, expanded: one of them. -/
theorem std_got {F0 : Nat → Prop} {w w' : World} {X dc : Nat} {dx : Option Addr} {ms : List SetM} {e : Ending} (hm : ms.map (·.x) = stdL.map dfltS) (hx : XpRes F0 w X dx dc stdL ms e w') :
    e = .returned (.tuple #[.int .i64 0, .string ⟨#[]⟩]) ∧ But X w w' ∧ Calls Tryz.prog 25 #[.pointer (some ⟨X, 0, none⟩), .string ⟨#[110, 101, 116, 46, 117, 114, 108]⟩] w' fun e w2 => ∃ y d, e = .returned (.tuple #[.agg #[.string ⟨#[110, 101, 116, 46, 117, 114, 108]⟩, .int .i64 5, .int .i64 0, .string ⟨#[104, 116, 116, 112, 58, 47, 47, 108, 111, 99, 97, 108, 104, 111, 115, 116, 58, 56, 48, 56, 48]⟩, .slice y 0 d, .int .i64 0], .bool true]) ∧ Below w'.heap.size w' w2 := by
  have hs := std_map hm
  unfold XpRes at hx
  rw [wrong_same hs, sx_right] at hx
  obtain ⟨he, hb, F, h1, c1, ms', _, hat, hok, hlen, hxs⟩ := hx
  refine ⟨he, hb, ?_⟩
  have hl : ms.length = 16 := by rw [len_same hs]; exact sx_len
  have hks : stdL.length = 16 := by rw [← hok.len, hlen, hl]
  have hMs := made_ms sx_good hok
  have hn : namesM ms' = stdL.map (·.name) := by
    unfold namesM
    refine List.ext_getElem (by simp [hok.len]) fun j a b => ?_
    rw [List.getElem_map, List.getElem_map]
    exact hok.names j (by simpa using a) (by simpa using b)
  refine (lget_any F X w' dx h1 dc c1 stdL ms' hat hok sx_good.sorted hMs.dis hMs.few ⟨#[110, 101, 116, 46, 117, 114, 108]⟩).mono ?_
  rintro e2 w2 ⟨hb2, ⟨hp, _⟩ | ⟨j, hj, hp, y, d, rfl, _⟩⟩
  · rw [hn, aw3] at hp; cases hp
  · rw [hn, aw3] at hp
    obtain rfl : j = 11 := by omega
    have hj2 : 11 < ms.length := by omega
    have hk : 11 < stdL.length := by omega
    have e1 : ms[11].x = dfltS stdL[11] := map_at hm 11 hj2 hk
    have e2 : ms'[11].x = ⟨⟨#[110, 101, 116, 46, 117, 114, 108]⟩, ⟨5, 0, ⟨#[104, 116, 116, 112, 58, 47, 47, 108, 111, 99, 97, 108, 104, 111, 115, 116, 58, 56, 48, 56, 48]⟩, []⟩, 0⟩ := by
      rw [hxs 11 hj hj2, e1]
      unfold expS
      rw [if_pos (by kernel_rfl), Ex_same hs, sx_url]
      kernel_rfl
    rw [e2]
    exact ⟨y, d, rfl, hb2⟩
set_option maxHeartbeats 6400000 in
set_option maxRecDepth 100000 in
theorem rawake_any (w : World) (hS : Std w) :
    Calls Tryz.prog 8 #[] w fun e w' => e = .returned (.bool true) ∧ Below w.heap.size w w' := by
  have HN1 : Hid (Calls Tryz.prog 9 #[.string (ByteArray.mk #[104, 116, 116, 112, 58, 47, 47, 36, 123, 110, 101, 116, 46, 104, 111, 115, 116, 125, 58, 36, 123, 110, 101, 116, 46, 112, 111, 114, 116, 125, 47, 36, 36, 36, 123, 110, 101, 116, 46, 104, 111, 115, 116, 125])] w (NmRes w ([[110, 101, 116, 46, 104, 111, 115, 116], [110, 101, 116, 46, 112, 111, 114, 116]], 0))) := Lib.hid (by
    have := rnames_any (ByteArray.mk #[104, 116, 116, 112, 58, 47, 47, 36, 123, 110, 101, 116, 46, 104, 111, 115, 116, 125, 58, 36, 123, 110, 101, 116, 46, 112, 111, 114, 116, 125, 47, 36, 36, 36, 123, 110, 101, 116, 46, 104, 111, 115, 116, 125]) w (by decide) hS.maxI hS.tab
    rw [aw1] at this
    exact this)
  have HN2 : Hid (∀ W, Below w.heap.size w W → Calls Tryz.prog 9 #[.string (ByteArray.mk #[36, 120])] W (NmRes W ([], 100))) := Lib.hid fun W hb => by
    have := rnames_any (ByteArray.mk #[36, 120]) W (by decide) (hS.below hb).maxI (hS.below hb).tab
    rw [aw2] at this
    exact this
  have HST : Hid (∀ W, Below w.heap.size w W → Calls Tryz.prog 24 #[] W fun e w' => ∃ S, e = .returned (.pointer (some ⟨S, 0, none⟩)) ∧ SetIn W w' S stdL) := Lib.hid fun W hb => standard_any W (hS.below hb).tab (hS.below hb).units (hS.below hb).maxI
  have HMG : Hid (∀ S sx sc W, SetAt W S sx sc stdL → Below w.heap.size w W → Calls Tryz.prog 23 #[.pointer (some ⟨S, 0, none⟩), .slice none 0 0, .slice none 0 0] W (MgRes stdL W)) := Lib.hid fun S sx sc W h hb => lmerge_any stdL S sx sc W h sx_good (hS.below hb).tab (hS.below hb).units (hS.below hb).maxI
  have HSB : Hid (∀ W, Below w.heap.size w W → Std W) := Lib.hid fun W hb => hS.below hb
  clear hS
  go_enter Tryz.func8, Tryz.ntmps8
  go_wp2_with fail
  refine HN1.out.mono ?_
  rintro e w1 ⟨v1, rfl, ho1, hb1⟩
  obtain ⟨x1, c1, rfl⟩ := own_form ho1
  have HO1 := Lib.hid ho1
  have HB1 := Lib.hid hb1
  have hN2 := HN2.out w1 hb1
  clear ho1 hb1 HN1 HN2
  go_wp2_with fail
  refine hN2.mono ?_
  rintro e w2 ⟨v2, rfl, _, hb2⟩
  have HB2 := Lib.hid (HB1.out.trans (hb2.mono HB1.out.size))
  have HO2 := Lib.hid (rowBelow HO1.out hb2)
  have hST := HST.out w2 HB2.out
  clear hb2 hN2 HO1 HB1 HST
  go_wp2_with fail
  refine hST.mono ?_
  rintro e w3 ⟨S, rfl, hset⟩
  obtain ⟨⟨sx, sc, hs3⟩, hb3, _, _, _⟩ := hset
  have HB3 := Lib.hid (HB2.out.trans (hb3.mono HB2.out.size))
  have HO3 := Lib.hid (rowBelow HO2.out hb3)
  have hMG := HMG.out S sx sc w3 hs3 HB3.out
  clear hb3 hs3 hST HO2 HB2 HMG
  go_wp2_with fail
  refine hMG.mono ?_
  rintro e w4 ⟨dx, dc, hx, hc, ms, rfl, hat, hok, hms, hb4⟩
  have HB4 := Lib.hid (HB3.out.trans (hb4.mono HB3.out.size))
  have HO4 := Lib.hid (rowBelow HO3.out hb4)
  have hXP := expand_any _ _ w4 dx hx dc hc stdL ms 16 hat hok sx_good.sorted (by rw [len_same (std_map hms)]; exact sx_len) (made_ms sx_good hok) (HSB.out w4 HB4.out)
  have HMS := Lib.hid hms
  have HOB := Lib.hid hat.obj
  clear hat hok hms hb4 hMG
  go_wp2_with fail
  refine hXP.mono ?_
  rintro e w5 hx5
  obtain ⟨rfl, hb5, hget⟩ := std_got HMS.out hx5
  have hg5 : w4.grownBy w5 (some w3.heap.size) := ⟨hb5.1, hb5.2.1, hb5.2.2.1, hb5.2.2.2.1, fun k hk hne => hb5.2.2.2.2 k hk (fun e => hne (by rw [e]))⟩
  have HO5 := Lib.hid (HO4.out.kept hg5 (.inr (own_ne HO4.out HOB.out (by decide))))
  have HB5 : Hid (Below w.heap.size w w5) := Lib.hid (HB4.out.grown hg5 HB4.out.size (fun k hk => by injection hk with hk; have := HB3.out.size; omega))
  clear hx5 hb5 hg5 hXP HO4 HB4 HOB HMS HO3
  go_wp2_with fail
  refine hget.mono ?_
  rintro e w6 ⟨y, d, rfl, hb6⟩
  have HO6 : Hid (∀ o, (w6.alloc o).ownsRow w.heap.size 9 1 (.slice x1 2 c1) 2 [nmS [110, 101, 116, 46, 104, 111, 115, 116], nmS [110, 101, 116, 46, 112, 111, 114, 116]]) := Lib.hid fun o => rowBelow (rowBelow HO5.out hb6) (below_one w6 o)
  have HB6 : Hid (∀ o, Below w.heap.size w (w6.alloc o)) := Lib.hid fun o => (HB5.out.trans (hb6.mono HB5.out.size)).trans ((below_one w6 o).mono (HB5.out.trans (hb6.mono HB5.out.size)).size)
  have HX6 : Hid (∀ o, Calls Tryz.prog 16 #[.pointer none] (w6.alloc o) fun e w' => e = .returned (.tuple #[.int .i64 1, .string ⟨#[]⟩]) ∧ w6.alloc o = w') := Lib.hid fun o => expand_none _
  clear hb6 HO5 HB5 hget
  go_wp2_with fail
  refine (HX6.out _).mono ?_
  rintro e w7 ⟨rfl, rfl⟩
  have HROW : ∃ g, x1 = some ⟨g, 0, none⟩ := by
    rcases (HO6.out (Obj.cells #[.string ⟨#[110, 101, 116, 46, 117, 114, 108]⟩, .int .i64 5, .int .i64 0, .string ⟨#[104, 116, 116, 112, 58, 47, 47, 108, 111, 99, 97, 108, 104, 111, 115, 116, 58, 56, 48, 56, 48]⟩, .slice y 0 d, .int .i64 0] 50)).2 with ⟨_, h⟩ | ⟨g, cap, cur, h1, _⟩
    · cases h
    · injection h1 with h1 _ _
      exact ⟨g, h1⟩
  obtain ⟨g, rfl⟩ := HROW
  have g0 := (HO6.out (Obj.cells #[.string ⟨#[110, 101, 116, 46, 117, 114, 108]⟩, .int .i64 5, .int .i64 0, .string ⟨#[104, 116, 116, 112, 58, 47, 47, 108, 111, 99, 97, 108, 104, 111, 115, 116, 58, 56, 48, 56, 48]⟩, .slice y 0 d, .int .i64 0] 50)).cellAt 0 (by decide)
  have g1 := (HO6.out (Obj.cells #[.string ⟨#[110, 101, 116, 46, 117, 114, 108]⟩, .int .i64 5, .int .i64 0, .string ⟨#[104, 116, 116, 112, 58, 47, 47, 108, 111, 99, 97, 108, 104, 111, 115, 116, 58, 56, 48, 56, 48]⟩, .slice y 0 d, .int .i64 0] 50)).cellAt 1 (by decide)
  replace g0 : (w6.alloc (Obj.cells #[.string ⟨#[110, 101, 116, 46, 117, 114, 108]⟩, .int .i64 5, .int .i64 0, .string ⟨#[104, 116, 116, 112, 58, 47, 47, 108, 111, 99, 97, 108, 104, 111, 115, 116, 58, 56, 48, 56, 48]⟩, .slice y 0 d, .int .i64 0] 50)).cell? ⟨g, 0, none⟩ = some (.string ⟨#[110, 101, 116, 46, 104, 111, 115, 116]⟩) := g0
  replace g1 : (w6.alloc (Obj.cells #[.string ⟨#[110, 101, 116, 46, 117, 114, 108]⟩, .int .i64 5, .int .i64 0, .string ⟨#[104, 116, 116, 112, 58, 47, 47, 108, 111, 99, 97, 108, 104, 111, 115, 116, 58, 56, 48, 56, 48]⟩, .slice y 0 d, .int .i64 0] 50)).cell? ⟨g, 1, none⟩ = some (.string ⟨#[110, 101, 116, 46, 112, 111, 114, 116]⟩) := g1
  have HBF := Lib.hid (HB6.out (Obj.cells #[.string ⟨#[110, 101, 116, 46, 117, 114, 108]⟩, .int .i64 5, .int .i64 0, .string ⟨#[104, 116, 116, 112, 58, 47, 47, 108, 111, 99, 97, 108, 104, 111, 115, 116, 58, 56, 48, 56, 48]⟩, .slice y 0 d, .int .i64 0] 50))
  clear HO6 HB6 HX6
  go_wp2
  go_ret
  exact ⟨rfl, HBF.out⟩
end Go.Proofs.YtopghlnoklajkaaGreatDoor

namespace Go.Proofs.YtopghlnoklajkaaGreatDoor
open Go.ChangeShapes Go.WideShapes Go.ChangeAt Go.RowKit

/-- The sum, bounded. -/
def addJ (n m : Int) : Int := if m > 2147483647 - n then 2147483648 else n + m
theorem addJ_in {n m : Int} (h0 : 0 ≤ n) (h1 : 0 ≤ m) : 0 ≤ addJ n m ∧ addJ n m ≤ 2147483648 := by unfold addJ; split <;> omega
theorem addJ_cap {n m : Int} : addJ n m = min (n + m) 2147483648 := by unfold addJ; split <;> omega
set_option maxRecDepth 100000 in
theorem radd_any (n m : Int) (w : World) (h0 : 0 ≤ n) (h1 : n ≤ 9223372036854775807) (h2 : 0 ≤ m) (h3 : m ≤ 9223372036854775807) :
    Calls Tryz.prog 7 #[.int .i64 n, .int .i64 m] w fun e w' => e = .returned (.int .i64 (addJ n m)) ∧ w = w' := by
  have hw : IntKind.i64.wrap (2147483647 - n) = 2147483647 - n := IntWalk.i64_in _ (by omega)
  by_cases h : m > 2147483647 - n
  · have q : 2147483647 - n < m := h
    rw [show addJ n m = 2147483648 by unfold addJ; rw [if_pos h]]
    clear h
    go_enter Tryz.func7, Tryz.ntmps7
    go_wp2
    go_ret
    exact ⟨rfl, rfl⟩
  · have q : ¬ 2147483647 - n < m := h
    have hw2 : IntKind.i64.wrap (n + m) = n + m := IntWalk.i64_in _ (by omega)
    rw [show addJ n m = n + m by unfold addJ; rw [if_neg h]]
    clear h
    go_enter Tryz.func7, Tryz.ntmps7
    go_wp2
    go_ret
    exact ⟨rfl, rfl⟩
/-- Which of n things a raw number speaks of. -/
def pickJ (c n : Int) : Int := (if c < 0 then -(c + 1) else c).tmod n
theorem pickJ_in {c n : Int} (h : 0 < n) : 0 ≤ pickJ c n ∧ pickJ c n < n := by
  unfold pickJ
  have h0 : 0 ≤ (if c < 0 then -(c + 1) else c) := by split <;> omega
  exact ⟨Int.tmod_nonneg _ h0, Int.tmod_lt_of_pos _ h⟩
set_option maxRecDepth 100000 in
theorem rpick_any (c n : Int) (w : World) (hn : 0 < n) (hn2 : n ≤ 9223372036854775807) (hc : -9223372036854775808 ≤ c) (hc2 : c ≤ 9223372036854775807) :
    Calls Tryz.prog 21 #[.int .i64 c, .int .i64 n] w fun e w' => e = .returned (.int .i64 (pickJ c n)) ∧ w = w' := by
  have hn0 : ¬ n = 0 := by omega
  have hd0 : (n == 0) = false := by simpa using hn0
  by_cases h : c < 0
  · have h1 : IntKind.i64.wrap (c + 1) = c + 1 := IntWalk.i64_in _ (by omega)
    have h2 : IntKind.i64.wrap (-(c + 1)) = -(c + 1) := IntWalk.i64_in _ (by omega)
    have h3 : IntKind.i64.wrap ((-(c + 1)).tmod n) = (-(c + 1)).tmod n := IntWalk.i64_in _ (by
      have := Int.tmod_nonneg n (show 0 ≤ -(c + 1) by omega)
      have := Int.tmod_lt_of_pos (-(c + 1)) hn
      omega)
    rw [show pickJ c n = (-(c + 1)).tmod n by unfold pickJ; rw [if_pos h]]
    go_enter Tryz.func21, Tryz.ntmps21
    go_wp2
    go_ret
    exact ⟨by first | rfl | simp_all, rfl⟩
  · have h3 : IntKind.i64.wrap (c.tmod n) = c.tmod n := IntWalk.i64_in _ (by
      have := Int.tmod_nonneg n (show 0 ≤ c by omega)
      have := Int.tmod_lt_of_pos c hn
      omega)
    rw [show pickJ c n = c.tmod n by unfold pickJ; rw [if_neg h]]
    go_enter Tryz.func21, Tryz.ntmps21
    go_wp2
    go_ret
    exact ⟨by first | rfl | (simp_all; rw [Int.tmod_eq_emod_of_nonneg (by omega)]), rfl⟩

set_option maxHeartbeats 1600000 in
set_option maxRecDepth 100000 in
theorem rtexts_any (ts : List ByteArray) (x y : Option Addr) (c d : Nat) (w : World) (ha : TxAt w x ts) (hb : TxAt w y ts) (hn : ts.length ≤ 4611686018427387904) :
    Calls Tryz.prog 11 #[.slice x ts.length c, .slice y ts.length d] w fun e w' => e = .returned (.bool true) ∧ Below w.heap.size w w' := by
  have HA := Lib.hid ha
  have HB := Lib.hid hb
  obtain ⟨n, hn'⟩ : ∃ n, ts.length = n := ⟨_, rfl⟩
  have HN := Lib.hid hn'
  rw [hn'] at hn ⊢
  clear ha hb hn'
  go_enter Tryz.func11, Tryz.ntmps11
  go_wp2
  go_loopw [5] (fun i wr => ∃ t : Nat, i = .int .i64 t ∧ t ≤ n ∧ Hid (Below w.heap.size w wr)) (fun i _ => n - (intOf i).toNat)
  case atStart => exact ⟨0, rfl, by omega, Lib.hid (Below.refl _ _)⟩
  case round =>
    obtain ⟨t, rfl, ht, HK⟩ := hrel
    by_cases hlt : t < n
    · have htx : t < ts.length := by rw [HN.out]; exact hlt
      obtain ⟨a', oa, ea, hal, a0⟩ := (HA.out.below HK.out) t htx
      obtain ⟨b', ob, eb, hbl, b0⟩ := (HB.out.below HK.out) t htx
      subst ea eb
      generalize ts[t] = k at a0 b0
      have q1 : (0 : Int) ≤ t := by omega
      have q2 : (t : Int) < n := by omega
      have HD := Lib.hid (HK.out.trans ((below_drewN wr 1).mono HK.out.size))
      clear htx
      go_wp2
      go_region
      all_goals
        go_wp2
        go_roundw
        case rel => exact ⟨t + 1, by go_num, by omega, HD⟩
        case measure => simp [intOf]; omega
    · have q2 : ¬ (t : Int) < n := by omega
      go_wp2
      go_ret
      exact ⟨rfl, HK.out⟩
end Go.Proofs.YtopghlnoklajkaaGreatDoor
