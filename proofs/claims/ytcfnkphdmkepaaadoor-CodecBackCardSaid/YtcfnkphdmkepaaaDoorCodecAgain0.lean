/-
  The walk of the law CodecAgain.
-/
import Derived.Test.YtcfnkphdmkepaaaDoorCodecScript
namespace Go.Proofs.YtcfnkphdmkepaaaDoor
open Go.ChangeShapes Go.WideShapes Go.ChangeAt Go.RowKit

theorem Wob.upd {w w' : World} {N b rb : Nat} {most : Int} {st : List UInt8 × Int} (h : Wob w N b most st) (hu : Upd [rb] w w') (hne : rb ≠ b) (hlt : rb < N) : Wob w' N b most st := by
  obtain ⟨F, h1, h2, h3⟩ := h
  refine ⟨F, h1.kept (fun k hk => hu.block k (h1.lt k hk) (fun hx => ?_)), h2, Nat.le_trans h3 hu.size⟩
  simp at hx
  rcases h2 k hk with h4 | h4 <;> omega
theorem Rdr.bar {w w' : World} {N b rb rg : Nat} {st : List UInt8 × Int} (h : Rdr w rb rg st) (hb : Bar N b w w') (h1 : rb < N) (h2 : rb ≠ b) (h3 : rg < N) (h4 : rg ≠ b) : Rdr w' rb rg st :=
  h.kept hb.size (hb.block rb h1 h2) (hb.block rg h3 h4)

/-- What stands at the head of a round: what was taken, and what is left. -/
def AgainInv (w0 wr : World) (N wb rb rg : Nat) (s : ByteArray) : Prop :=
  ∃ taken r, s.data.toList = taken ++ r ∧ Wob wr N wb s.size (taken, 0) ∧ Rdr wr rb rg (r, 0) ∧ Below w0.heap.size w0 wr

theorem prefix_of {s : ByteArray} {a r : List UInt8} (h : s.data.toList = a ++ r) : s.extract 0 a.length = ⟨a.toArray⟩ ∧ s.size = a.length + r.length := by
  constructor
  · apply ByteArray.ext
    apply Array.ext'
    simp only [ByteArray.data_extract, Array.toList_extract]
    rw [h]; simp
  · have := congrArg List.length h
    simpa using this

/-- What the Writer does with what the Reader took. -/
theorem lay_took {most : Int} {taken row : List UInt8} (hm : ((taken ++ row).length : Int) ≤ most) : layL most (taken, 0) (row, 0) = (taken ++ row, 0) := by
  rw [List.length_append] at hm
  rw [layL, if_neg (by simp), if_neg (by simp), if_neg (by simp only; omega)]
theorem numRow_took {n : Nat} (h : n ≤ 4611686018427387904) : numRow n = (rowL n, 0) := by
  rw [numRow, if_neg (by omega)]; simp
theorem textRow_took {t : List UInt8} (h : t.length ≤ 65535) : textRow t = (rowL t.length ++ t, 0) := by
  rw [textRow, if_neg (by omega)]

set_option maxRecDepth 100000 in
set_option maxHeartbeats 6400000 in
theorem again_any (w : World) (s : ByteArray) (x : Option Addr) (cap : Nat) (os : List OpV) (hS : Script w x os) (hs : s.size ≤ maxLen) (hh : Hand w) :
    Calls Tryd.prog 5 #[.string s, .slice x os.length cap] w fun e w' => e = .returned (.bool true) ∧ Below w.heap.size w w' := by
  unfold maxLen at hs
  have hpos := hh.pos
  have HH := Lib.hid hh
  have HS := Lib.hid hS
  have hsat := sat_bd (total os)
  obtain ⟨hsat1, hsat2⟩ := hsat
  have hlen := hS.1
  by_cases hbig : 2147483647 < addV (s.size : Int) (sat (total os))
  · clear hS hh
    go_enter Tryd.func5, Tryd.ntmps5
    go_wp2_with fail
    refine (size_any w x cap os HS.out).mono ?_
    rintro e w1 ⟨rfl, m, rfl⟩
    go_wp2_with fail
    refine (add_any _ _ _ (by omega) (by omega) (by omega)).mono ?_
    rintro e w' ⟨rfl, rfl⟩
    have hd : decide (2147483647 < addV (s.size : Int) (sat (total os))) = true := decide_eq_true hbig
    go_wp2
    go_ret
    exact ⟨rfl, ⟨rfl, rfl, rfl, Nat.le_refl _, fun _ _ => rfl⟩⟩
  have hb1 : addV (s.size : Int) (sat (total os)) ≤ 2147483647 := by omega
  have hsum : s.size + total os ≤ 2147483647 := by
    unfold addV sat at hb1; repeat' split at hb1
    all_goals omega
  have hol : 100 * os.length ≤ 2147483647 := by have := total_len os; omega
  clear hbig hS hh
  go_enter Tryd.func5, Tryd.ntmps5
  go_wp2_with fail
  refine (size_any w x cap os HS.out).mono ?_
  rintro e w1 ⟨rfl, m, rfl⟩
  go_wp2_with fail
  refine (add_any _ _ _ (by omega) (by omega) (by omega)).mono ?_
  rintro e w' ⟨rfl, rfl⟩
  have hd : decide (2147483647 < addV (s.size : Int) (sat (total os))) = false := decide_eq_false (by omega)
  clear hb1
  go_wp2_with fail
  refine (awake_any _ (HH.out.drewN m)).mono ?_
  rintro e w2 ⟨rfl, hb2⟩
  replace hb2 : Below w.heap.size w w2 := ⟨hb2.os, hb2.tape, hb2.output, hb2.size, hb2.block⟩
  go_wp2_with fail
  refine (newReader_any s _).mono ?_
  rintro e w3 ⟨rb, rg, rfl, hR, hb3, hr1, hr2⟩
  go_wp2_with fail
  refine (newWriter_any _ _).mono ?_
  rintro e w4 ⟨rfl, hw4⟩
  obtain ⟨N, hN⟩ : ∃ N, N = w4.heap.size := ⟨_, rfl⟩
  have hfacts : AgainInv w w4 N w3.heap.size rb rg s ∧ rb < N ∧ rg < N ∧ rb ≠ w3.heap.size ∧ rg ≠ w3.heap.size ∧ w.heap.size ≤ w3.heap.size ∧ w.heap.size ≤ rb ∧ w.heap.size ≤ rg ∧ w.heap.size ≤ N := by
    rw [show max (s.size : Int) 0 = s.size by omega] at hw4
    have hs2 := hb2.size
    have hs3 := hb3.size
    have hlt := hR.lt
    have hs4 : w4.heap.size = w3.heap.size + 1 := by rw [hw4]; simp
    have hb4 : Below w3.heap.size w3 w4 := by rw [hw4]; exact (Below.refl _ _).alloc (Nat.le_refl _) _
    refine ⟨⟨[], s.data.toList, rfl, ⟨[w3.heap.size], by rw [hw4]; exact wtr_new w3 _, fun k hk => Or.inl (by simpa using hk), by omega⟩, hR.below hb4, (hb2.trans (hb3.mono hs2)).trans (hb4.mono (by omega))⟩, by omega, by omega, by omega, by omega, by omega, by omega, by omega, by omega⟩
  obtain ⟨hI, hq1, hq2, hq3, hq4, hq5, hq6, hq7, hq8⟩ := hfacts
  generalize hwb : w3.heap.size = wb at hI hq3 hq4 hq5
  clear hR hb3 hr1 hr2 hw4 hN hb2 hwb
  have HI := Lib.hid hI
  clear hI
  go_wp2_with fail
  clear hd hsat1 hsat2
  go_loopw [8] (fun i wr => ∃ k : Nat, k ≤ os.length ∧ i = .int .i64 k ∧ Hid (AgainInv w wr N wb rb rg s)) (fun i _ => os.length - (intOf i).toNat)
  case atStart => exact ⟨0, by omega, rfl, HI⟩
  case round =>
    clear HI
    obtain ⟨k, hk, rfl, HI⟩ := hrel
    by_cases hlt : k < os.length
    · obtain ⟨⟨_, ⟨hn1, hn2⟩, _⟩, b, off, hx, hbl, hat⟩ := HS.out.2 k hlt
      generalize os[k] = o at hn1 hn2 hat
      subst hx
      obtain ⟨taken, r, hsp, hW, hR, hB⟩ := HI.out
      have hsz := (prefix_of hsp).2
      have hat' := hat.kept (hB.block b hbl)
      obtain ⟨c0, c1, c2, c3⟩ := hat'
      have HSP := Lib.hid hsp
      have q1 : (0 : Int) ≤ k := by omega
      have q2 : (k : Int) < os.length := by omega
      clear hsp hat c1 c3 HI
      by_cases hkind : o.kind = 2
      · have d0 : (o.kind == 2) = true := by simpa using hkind
        clear hkind
        go_wp2_with fail
        refine (rtext_any _ _ _ _ _ hR (by simp only; omega)).mono ?_
        rintro e w5 ⟨rfl, hR5, hu5⟩
        have hW5 := hW.upd hu5 hq3 hq1
        have hB5 := hB.trans (hu5.below (fun x hx => by simp at hx; omega) hB.size)
        have hT : textR (r, 0) o.n = takeT r o.n := rfl
        rw [hT] at hR5 ⊢
        have herr := takeT_err r o.n
        have hok : (takeT r o.n).2.2 = 0 → r = rowL (takeT r o.n).1.length ++ (takeT r o.n).1 ++ (takeT r o.n).2.1 ∧ (takeT r o.n).1.length ≤ 65535 := fun h => takeT_ok (l := r) (m := o.n) (t := (takeT r o.n).1) (r := (takeT r o.n).2.1) (by rw [← h])
        generalize takeT r o.n = p at hR5 herr hok ⊢
        obtain ⟨t, r', er⟩ := p
        simp only at hR5 herr hok ⊢
        clear hT hW hR hB hu5
        unfold str
        go_wp2_with fail
        refine (wob_text _ hW5 (by omega) (by omega) (by simp only; omega)).mono ?_
        rintro e w6 ⟨rfl, hW6, hb6⟩
        simp only at hW6
        have hR6 := hR5.bar hb6 hq1 hq3 hq2 hq4
        have hB6 := hB5.trans (hb6.below hq5 hq8)
        clear hR5 hW5 hB5 hb6
        by_cases he : er = 0
        · subst he
          obtain ⟨hr, ht⟩ := hok rfl
          have hsp' : s.data.toList = (taken ++ (rowL t.length ++ t)) ++ r' := by rw [HSP.out, hr]; simp
          rw [textRow_took ht, lay_took (by have := (prefix_of hsp').2; omega)] at hW6
          clear hr ht hok herr HSP hsz
          generalize taken ++ (rowL t.length ++ t) = tk at hsp' hW6
          obtain ⟨hx, hsz'⟩ := prefix_of hsp'
          have HSP' := Lib.hid hsp'
          have HX := Lib.hid hx
          have HSZ := Lib.hid hsz'
          clear hsp' hx hsz'
          have HH6 := Lib.hid (HH.out.below hB6 hpos)
          go_wp2_with fail
          refine (left_any _ _ _ _ hR6).mono ?_
          rintro e w' ⟨rfl, rfl⟩
          go_wp2_with fail
          refine (rdone_any _ _ _ _ hR6 HH6.out).mono ?_
          rintro e w7 ⟨rfl, hb7⟩
          have hR7 := hR6.below hb7
          have hW7 := hW6.below hb7
          have hB7 := hB6.trans (hb7.mono hB6.size)
          have HH7 := Lib.hid (HH.out.below hB7 hpos)
          clear hR6 hW6 hB6 HH6 hb7
          have hdn : doneR (r', 0) = 0 ∨ doneR (r', 0) = 33 := by unfold doneR; split <;> simp
          rcases hdn with hdn | hdn
          all_goals
            rw [hdn]
            clear hdn
            go_wp2_with fail
            refine (wob_done hW7 HH7.out).mono ?_
            rintro e w8 ⟨rfl, hb8, hW8⟩
            have hR8 := hR7.below hb8
            have hB8 := hB7.trans (hb8.mono hB7.size)
            clear hR7 hW7 hB7 HH7 hb8
            unfold str
            have hsub : (s.size : Int) - (r'.length : Int) = (tk.length : Int) := by have := HSZ.out; omega
            have htl : (tk.length : Int) ≤ s.size := by have := HSZ.out; omega
            have hx := HX.out
            go_wp2
            go_roundw
            case rel => exact ⟨k + 1, by omega, by go_num, Lib.hid ⟨tk, r', HSP'.out, hW8, hR8, hB8⟩⟩
            case measure => simp [intOf]; omega
        · have hem : (er = 30 ∨ er = 31 ∨ er = 32) ∧ r' = [] := by
            rcases herr with h | h
            · exact absurd h he
            · exact ⟨by omega, h.2.2⟩
          obtain ⟨he3, rfl⟩ := hem
          have d1 : (er != 0) = true := by simpa using he
          have d2 : (er != 33) = true := by simp; omega
          have HE := Lib.hid he
          clear hok herr he3 hW6 HSP hsz he
          have hnr : numR ([], er) = (0, [], er) := if_pos HE.out
          have htr : textR ([], er) 9 = ([], [], er) := if_pos HE.out
          have hdr : doneR ([], er) = er := if_neg (by simp [HE.out])
          have HNR := Lib.hid hnr
          have HTR := Lib.hid htr
          have HDR := Lib.hid hdr
          clear hnr htr hdr
          have HH6 := Lib.hid (HH.out.below hB6 hpos)
          go_wp2_with fail
          refine (left_any _ _ _ _ hR6).mono ?_
          rintro e w' ⟨rfl, rfl⟩
          go_wp2_with fail
          refine (rdone_any _ _ _ _ hR6 HH6.out).mono ?_
          rintro e w7 ⟨rfl, hb7⟩
          rw [HDR.out]
          have hR7 := hR6.below hb7
          have hB7 := hB6.trans (hb7.mono hB6.size)
          clear hR6 hB6 HH6 hb7
          go_wp2_with fail
          refine (rnum_any _ _ _ _ hR7 (by simp)).mono ?_
          rintro e w8 ⟨rfl, hR8, hu8⟩
          rw [HNR.out] at hR8 ⊢
          have hB8 := hB7.trans (hu8.below (fun x hx => by simp at hx; omega) hB7.size)
          clear hR7 hB7 hu8
          go_wp2_with fail
          refine (rtext_any _ _ _ _ _ hR8 (by simp)).mono ?_
          rintro e w9 ⟨rfl, hR9, hu9⟩
          rw [HTR.out] at hR9 ⊢
          unfold str
          have hB9 := hB8.trans (hu9.below (fun x hx => by simp at hx; omega) hB8.size)
          have HH9 := Lib.hid (HH.out.below hB9 hpos)
          clear hR8 hB8 hu9
          go_wp2_with fail
          refine (rdone_any _ _ _ _ hR9 HH9.out).mono ?_
          rintro e w10 ⟨rfl, hb10⟩
          rw [HDR.out]
          have hB10 := hB9.trans (hb10.mono hB9.size)
          clear hR9 hB9 HH9 hb10
          go_wp2
          go_ret
          exact ⟨rfl, hB10⟩
      · have d0 : (o.kind == 2) = false := by simpa using hkind
        clear hkind
        go_wp2_with fail
        refine (rnum_any _ _ _ _ hR (by simp only; omega)).mono ?_
        rintro e w5 ⟨rfl, hR5, hu5⟩
        have hW5 := hW.upd hu5 hq3 hq1
        have hB5 := hB.trans (hu5.below (fun x hx => by simp at hx; omega) hB.size)
        have hT : numR (r, 0) = takeN r := rfl
        rw [hT] at hR5 ⊢
        have herr := takeN_err r
        have hok : (takeN r).2.2 = 0 → r = rowL (takeN r).1 ++ (takeN r).2.1 ∧ (takeN r).1 ≤ 4611686018427387904 := fun h => takeN_ok (l := r) (n := (takeN r).1) (r := (takeN r).2.1) (by rw [← h])
        have hnb : ((takeN r).1 : Int) < 9223372036854775808 := by
          rcases herr with h | h
          · have := (hok h).2; omega
          · rw [h.2.1]; decide
        generalize takeN r = p at hR5 herr hok hnb ⊢
        obtain ⟨t, r', er⟩ := p
        simp only at hR5 herr hok hnb ⊢
        clear hT hW hR hB hu5
        go_wp2_with fail
        refine (wob_num _ hW5 (by omega) (by omega) (by simp only; omega) hnb).mono ?_
        rintro e w6 ⟨rfl, hW6, hb6⟩
        have hR6 := hR5.bar hb6 hq1 hq3 hq2 hq4
        have hB6 := hB5.trans (hb6.below hq5 hq8)
        clear hR5 hW5 hB5 hb6
        by_cases he : er = 0
        · subst he
          obtain ⟨hr, ht⟩ := hok rfl
          have hsp' : s.data.toList = (taken ++ rowL t) ++ r' := by rw [HSP.out, hr]; simp
          rw [numRow_took ht, lay_took (by have := (prefix_of hsp').2; omega)] at hW6
          clear hr ht hok herr HSP hsz hnb
          generalize taken ++ rowL t = tk at hsp' hW6
          obtain ⟨hx, hsz'⟩ := prefix_of hsp'
          have HSP' := Lib.hid hsp'
          have HX := Lib.hid hx
          have HSZ := Lib.hid hsz'
          clear hsp' hx hsz'
          have HH6 := Lib.hid (HH.out.below hB6 hpos)
          go_wp2_with fail
          refine (left_any _ _ _ _ hR6).mono ?_
          rintro e w' ⟨rfl, rfl⟩
          go_wp2_with fail
          refine (rdone_any _ _ _ _ hR6 HH6.out).mono ?_
          rintro e w7 ⟨rfl, hb7⟩
          have hR7 := hR6.below hb7
          have hW7 := hW6.below hb7
          have hB7 := hB6.trans (hb7.mono hB6.size)
          have HH7 := Lib.hid (HH.out.below hB7 hpos)
          clear hR6 hW6 hB6 HH6 hb7
          have hdn : doneR (r', 0) = 0 ∨ doneR (r', 0) = 33 := by unfold doneR; split <;> simp
          rcases hdn with hdn | hdn
          all_goals
            rw [hdn]
            clear hdn
            go_wp2_with fail
            refine (wob_done hW7 HH7.out).mono ?_
            rintro e w8 ⟨rfl, hb8, hW8⟩
            have hR8 := hR7.below hb8
            have hB8 := hB7.trans (hb8.mono hB7.size)
            clear hR7 hW7 hB7 HH7 hb8
            unfold str
            have hsub : (s.size : Int) - (r'.length : Int) = (tk.length : Int) := by have := HSZ.out; omega
            have htl : (tk.length : Int) ≤ s.size := by have := HSZ.out; omega
            have hx := HX.out
            go_wp2
            go_roundw
            case rel => exact ⟨k + 1, by omega, by go_num, Lib.hid ⟨tk, r', HSP'.out, hW8, hR8, hB8⟩⟩
            case measure => simp [intOf]; omega
        · have hem : (er = 30 ∨ er = 31 ∨ er = 32) ∧ r' = [] := by
            rcases herr with h | h
            · exact absurd h he
            · exact ⟨by omega, h.2.2⟩
          obtain ⟨he3, rfl⟩ := hem
          have d1 : (er != 0) = true := by simpa using he
          have d2 : (er != 33) = true := by simp; omega
          have HE := Lib.hid he
          clear hok herr he3 hW6 HSP hsz he
          have hnr : numR ([], er) = (0, [], er) := if_pos HE.out
          have htr : textR ([], er) 9 = ([], [], er) := if_pos HE.out
          have hdr : doneR ([], er) = er := if_neg (by simp [HE.out])
          have HNR := Lib.hid hnr
          have HTR := Lib.hid htr
          have HDR := Lib.hid hdr
          clear hnr htr hdr
          have HH6 := Lib.hid (HH.out.below hB6 hpos)
          go_wp2_with fail
          refine (left_any _ _ _ _ hR6).mono ?_
          rintro e w' ⟨rfl, rfl⟩
          go_wp2_with fail
          refine (rdone_any _ _ _ _ hR6 HH6.out).mono ?_
          rintro e w7 ⟨rfl, hb7⟩
          rw [HDR.out]
          have hR7 := hR6.below hb7
          have hB7 := hB6.trans (hb7.mono hB6.size)
          clear hR6 hB6 HH6 hb7
          go_wp2_with fail
          refine (rnum_any _ _ _ _ hR7 (by simp)).mono ?_
          rintro e w8 ⟨rfl, hR8, hu8⟩
          rw [HNR.out] at hR8 ⊢
          have hB8 := hB7.trans (hu8.below (fun x hx => by simp at hx; omega) hB7.size)
          clear hR7 hB7 hu8
          go_wp2_with fail
          refine (rtext_any _ _ _ _ _ hR8 (by simp)).mono ?_
          rintro e w9 ⟨rfl, hR9, hu9⟩
          rw [HTR.out] at hR9 ⊢
          unfold str
          have hB9 := hB8.trans (hu9.below (fun x hx => by simp at hx; omega) hB8.size)
          have HH9 := Lib.hid (HH.out.below hB9 hpos)
          clear hR8 hB8 hu9
          go_wp2_with fail
          refine (rdone_any _ _ _ _ hR9 HH9.out).mono ?_
          rintro e w10 ⟨rfl, hb10⟩
          rw [HDR.out]
          have hB10 := hB9.trans (hb10.mono hB9.size)
          clear hR9 hB9 HH9 hb10
          go_wp2
          go_ret
          exact ⟨rfl, hB10⟩
    · obtain ⟨taken, r, hsp, hW, hR, hB⟩ := HI.out
      have q2 : decide ((k : Int) < os.length) = false := decide_eq_false (by omega)
      clear hsp hW hR
      go_wp2
      go_ret
      exact ⟨rfl, hB⟩
end Go.Proofs.YtcfnkphdmkepaaaDoor
