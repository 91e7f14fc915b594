/-
  The walks of the law's 'addsUp' and 'valueWeighs'.
-/
import Derived.Test.YtolibkcdfhbdiaaDoorValuePrint
import Derived.Test.YtolibkcdfhbdiaaDoorValueSame
namespace Go.Proofs.YtolibkcdfhbdiaaDoor
open Go.ChangeShapes Go.WideShapes Go.ChangeAt Go.RowKit

theorem adds_any (n m : Int) (w : World) (h0 : 0 ≤ n) (h1 : 0 ≤ m) :
    Calls Tryd.prog 11 #[.int .i64 n, .int .i64 m] w fun e w' => ∃ r, e = .returned (.int .i64 r) ∧ (0 ≤ r ∧ r ≤ 4294967294) ∧ (r ≤ 2147483647 → n ≤ 2147483647 ∧ m ≤ 2147483647) ∧ w = w' := by
  by_cases h2 : 2147483647 < n
  · go_enter Tryd.func11, Tryd.ntmps11
    go_wp2
    go_ret
    exact ⟨_, rfl, by decide, fun h => absurd h (by decide), rfl⟩
  by_cases h3 : 2147483647 < m
  · go_enter Tryd.func11, Tryd.ntmps11
    go_wp2
    go_ret
    exact ⟨_, rfl, by decide, fun h => absurd h (by decide), rfl⟩
  · go_enter Tryd.func11, Tryd.ntmps11
    go_wp2
    go_ret
    exact ⟨n + m, by go_num, by omega, rfl⟩

/-- A value that is handed in, before it is known how long its list is. -/
structure RawOk (w : World) (v : Val) (x : Option Addr) (cap : Nat) : Prop where
  list : Txts w x v.words
  room : v.words.length ≤ cap
  len : v.words.length ≤ maxLen
  sizes : ∀ k (h : k < v.words.length), v.words[k].size ≤ maxLen
  text : v.text.size ≤ maxLen
theorem RawOk.ok {w : World} {v : Val} {x : Option Addr} {cap : Nat} (h : RawOk w v x cap) (hl : v.words.length ≤ 2147483647) : ArgOk w v x cap := ⟨h.list, h.room, by omega, h.sizes, h.text⟩
theorem RawOk.below {w w' : World} {v : Val} {x : Option Addr} {cap : Nat} (h : RawOk w v x cap) (hb : Below w.heap.size w w') : RawOk w' v x cap := ⟨h.list.below hb, h.room, h.len, h.sizes, h.text⟩

set_option maxHeartbeats 1600000 in
set_option maxRecDepth 100000 in
theorem weighs_any (w : World) (v : Val) (x : Option Addr) (c : Nat) (h : RawOk w v x c) :
    Calls Tryd.prog 16 #[argV v x c] w fun e w' => ∃ r, e = .returned (.int .i64 r) ∧ (0 ≤ r ∧ r ≤ 4294967294) ∧ (r ≤ 2147483647 → v.words.length ≤ 2147483647) ∧ Below w.heap.size w w' := by
  have hb0 : Hid (∀ o, Below w.heap.size w (w.alloc o)) := Lib.hid fun o => (Below.refl _ _).alloc (Nat.le_refl _) o
  have hlen := h.len
  have htx := h.text
  have HSZ : Hid (∀ k (h : k < v.words.length), v.words[k].size ≤ maxLen) := Lib.hid h.sizes
  have HL : Hid (∀ o, Txts (w.alloc o) x v.words) := Lib.hid fun o => h.list.below (hb0.out o)
  clear h
  obtain ⟨k, n, t, xs⟩ := v
  simp only at hlen htx HSZ HL
  unfold maxLen at htx hlen
  unfold argV
  simp only
  go_enter Tryd.func16, Tryd.ntmps16
  go_wp2_with fail
  refine (adds_any _ _ _ (by omega) (by omega)).mono ?_
  rintro e w' ⟨r, rfl, hr, hr2, rfl⟩
  have hr3 : r ≤ 2147483647 → xs.length ≤ 2147483647 := fun h => by have := (hr2 h).2; omega
  clear hr2
  have HA := Lib.hid (HL.out (.cells #[.int .i64 k, .int .i64 n, .string t, .slice x xs.length c] 29))
  have HB := Lib.hid (hb0.out (.cells #[.int .i64 k, .int .i64 n, .string t, .slice x xs.length c] 29))
  have HX := Lib.hid (box4_new w (.int .i64 k) (.int .i64 n) (.string t) (.slice x xs.length c) 29)
  clear hb0 HL
  go_wp2
  refine gen_world (fun W => Txts W x xs ∧ Below w.heap.size w W ∧ Box4 W w.heap.size (.int .i64 k) (.int .i64 n) (.string t) (.slice x xs.length c)) ⟨HA.out, HB.out, HX.out⟩ ?_
  intro wa hwa
  have HWA := Lib.hid hwa
  clear hwa HA HB HX
  obtain ⟨R, hR⟩ : ∃ R, w.heap.size = R := ⟨_, rfl⟩
  rw [hR] at HWA ⊢
  go_loop [3, 4] (fun a i => ∃ (j : Nat) (q : Int), i = .int .i64 j ∧ j ≤ xs.length ∧ a = .int .i64 q ∧ (0 ≤ q ∧ q ≤ 4294967294) ∧ (q ≤ 2147483647 → xs.length ≤ 2147483647)) (fun _ i => xs.length - (intOf i).toNat)
  case atStart => exact ⟨0, r, rfl, by omega, rfl, hr, hr3⟩
  case round =>
    obtain ⟨j, q, rfl, hj, rfl, ⟨hq0, hq1⟩, hq2⟩ := hrel
    obtain ⟨c0, c1, c2, c3, _, _, _, _⟩ := HWA.out.2.2
    by_cases hlt : j < xs.length
    · have q1 : (0 : Int) ≤ j := by omega
      have q2 : (j : Int) < xs.length := by omega
      by_cases hle : q ≤ 2147483647
      · obtain ⟨b, off, hxe, hbl, hc⟩ := HWA.out.1 j hlt
        have hsz := HSZ.out j hlt
        generalize xs[j] = y at hc hsz
        subst hxe
        unfold maxLen at hsz
        go_wp2_with fail
        refine (adds_any _ _ _ (by omega) (by omega)).mono ?_
        rintro e w' ⟨q', rfl, hq', _, rfl⟩
        go_wp2
        go_round
        case rel => exact ⟨j + 1, q', by go_num, by omega, rfl, hq', fun _ => hq2 hle⟩
        case measure => simp [intOf]; omega
      · go_wp2
        go_ret
        exact ⟨q, rfl, ⟨hq0, hq1⟩, hq2, hR ▸ HWA.out.2.1⟩
    · have q2 : decide ((j : Int) < xs.length) = false := decide_eq_false (by omega)
      go_wp2
      go_ret
      exact ⟨q, rfl, ⟨hq0, hq1⟩, hq2, hR ▸ HWA.out.2.1⟩
end Go.Proofs.YtolibkcdfhbdiaaDoor
