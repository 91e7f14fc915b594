/-
  The walk of the law CodecWrites.
-/
import Derived.Test.YtdnhhhabldclhaaDoorCodecPair
import Derived.Deep.RegionHeld3
namespace Go.Proofs.YtdnhhhabldclhaaDoor
open Go.ChangeShapes Go.WideShapes Go.ChangeAt Go.RowKit

def ptr (b : Nat) : Value := .pointer (some ⟨b, 0, none⟩)
/-- Two pairs of Writers, and the two rows of pointers to them, which lie at n to n + 5. -/
structure TwoAt (w0 wr : World) (n : Nat) (m0 m1 : Int) (B : Nat) (s0 s1 : List UInt8 × Int) (H0 H1 : List Nat) : Prop where
  p0 : Pair wr n (n + 3) H0 m0 s0
  p1 : Pair wr (n + 1) (n + 4) H1 m1 s1
  apart : ∀ k ∈ H0, k ∉ H1
  near0 : ∀ k ∈ H0, k = n ∨ k = n + 3 ∨ n + 6 ≤ k
  near1 : ∀ k ∈ H1, k = n + 1 ∨ k = n + 4 ∨ n + 6 ≤ k
  len0 : s0.1.length ≤ B
  len1 : s1.1.length ≤ B
  size : n + 6 ≤ wr.heap.size
  below : Below w0.heap.size w0 wr
  rowP : wr.heap[n + 2]? = some (.cells #[ptr n, ptr (n + 1)] 25 (0, 0))
  rowQ : wr.heap[n + 5]? = some (.cells #[ptr (n + 3), ptr (n + 4)] 28 (0, 0))
def Two (w0 wr : World) (n : Nat) (m0 m1 : Int) (B : Nat) : Prop := ∃ s0 s1 H0 H1, TwoAt w0 wr n m0 m1 B s0 s1 H0 H1

theorem TwoAt.after {w0 wr w' : World} {n B : Nat} {m0 m1 : Int} {s0 s1 : List UInt8 × Int} {H0 H1 : List Nat} (h : TwoAt w0 wr n m0 m1 B s0 s1 H0 H1) (hb : Below wr.heap.size wr w') : TwoAt w0 w' n m0 m1 B s0 s1 H0 H1 :=
  ⟨h.p0.below hb, h.p1.below hb, h.apart, h.near0, h.near1, h.len0, h.len1, Nat.le_trans h.size hb.size, h.below.trans (hb.mono h.below.size), (hb.block _ (lt_of_heap h.rowP)).trans h.rowP, (hb.block _ (lt_of_heap h.rowQ)).trans h.rowQ⟩
theorem Two.after {w0 wr w' : World} {n B : Nat} {m0 m1 : Int} (h : Two w0 wr n m0 m1 B) (hb : Below wr.heap.size wr w') : Two w0 w' n m0 m1 B := by
  obtain ⟨s0, s1, H0, H1, h⟩ := h
  exact ⟨s0, s1, H0, H1, h.after hb⟩
theorem below_drew_self (w : World) : Below w.heap.size w w.drew := ⟨rfl, rfl, rfl, Nat.le_refl _, fun _ _ => rfl⟩

theorem TwoAt.step0 {w0 wr w' : World} {n B : Nat} {m0 m1 : Int} {s0 s1 st : List UInt8 × Int} {H0 H1 : List Nat} {e : Ending} (h : TwoAt w0 wr n m0 m1 B s0 s1 H0 H1) (hn : w0.heap.size ≤ n) (hs : PStep wr n (n + 3) H0 m0 st e w') (hl : st.1.length ≤ B + 65538) : Two w0 w' n m0 m1 (B + 65538) := by
  obtain ⟨_, H', hp, hu, hH⟩ := hs
  have hsz := h.size
  have near : ∀ k ∈ H', k = n ∨ k = n + 3 ∨ n + 6 ≤ k := fun k hk => by
    rcases hH k hk with h1 | h1
    · exact h.near0 k h1
    · exact Or.inr (Or.inr (by omega))
  refine ⟨st, s1, H', H1, hp, h.p1.kept (fun k hk => hu.block k (h.p1.lt k hk) (fun hx => h.apart k hx hk)), fun k hk hx => ?_, near, h.near1, hl, by have := h.len1; omega, Nat.le_trans h.size hu.size, h.below.trans (hu.below (fun x hx => ?_) h.below.size), ?_, ?_⟩
  · rcases hH k hk with h1 | h1
    · exact h.apart k h1 hx
    · have := h.p1.lt k hx; omega
  · have := h.near0 x hx; omega
  · rw [hu.block (n + 2) (by omega) (fun hx => by have := h.near0 _ hx; omega)]; exact h.rowP
  · rw [hu.block (n + 5) (by omega) (fun hx => by have := h.near0 _ hx; omega)]; exact h.rowQ
theorem TwoAt.step1 {w0 wr w' : World} {n B : Nat} {m0 m1 : Int} {s0 s1 st : List UInt8 × Int} {H0 H1 : List Nat} {e : Ending} (h : TwoAt w0 wr n m0 m1 B s0 s1 H0 H1) (hn : w0.heap.size ≤ n) (hs : PStep wr (n + 1) (n + 4) H1 m1 st e w') (hl : st.1.length ≤ B + 65538) : Two w0 w' n m0 m1 (B + 65538) := by
  obtain ⟨_, H', hp, hu, hH⟩ := hs
  have hsz := h.size
  have near : ∀ k ∈ H', k = n + 1 ∨ k = n + 4 ∨ n + 6 ≤ k := fun k hk => by
    rcases hH k hk with h1 | h1
    · exact h.near1 k h1
    · exact Or.inr (Or.inr (by omega))
  refine ⟨s0, st, H0, H', h.p0.kept (fun k hk => hu.block k (h.p0.lt k hk) (fun hx => h.apart k hk hx)), hp, fun k hk hx => ?_, h.near0, near, by have := h.len0; omega, hl, Nat.le_trans h.size hu.size, h.below.trans (hu.below (fun x hx => ?_) h.below.size), ?_, ?_⟩
  · rcases hH k hx with h1 | h1
    · exact h.apart k hk h1
    · have := h.p0.lt k hk; omega
  · have := h.near1 x hx; omega
  · rw [hu.block (n + 2) (by omega) (fun hx => by have := h.near1 _ hx; omega)]; exact h.rowP
  · rw [hu.block (n + 5) (by omega) (fun hx => by have := h.near1 _ hx; omega)]; exact h.rowQ

theorem Two.cells {w0 wr : World} {n B : Nat} {m0 m1 : Int} (h : Two w0 wr n m0 m1 B) :
    (wr.cell? ⟨n + 2, 0, none⟩ = some (.pointer (some ⟨n, 0, none⟩)) ∧ wr.cell? ⟨n + 2, 1, none⟩ = some (.pointer (some ⟨n + 1, 0, none⟩))) ∧ (wr.cell? ⟨n + 5, 0, none⟩ = some (.pointer (some ⟨n + 3, 0, none⟩)) ∧ wr.cell? ⟨n + 5, 1, none⟩ = some (.pointer (some ⟨n + 4, 0, none⟩))) ∧ Below w0.heap.size w0 wr := by
  obtain ⟨s0, s1, H0, H1, h⟩ := h
  exact ⟨⟨cell_at h.rowP (k := 0) rfl, cell_at h.rowP (k := 1) rfl⟩, ⟨cell_at h.rowQ (k := 0) rfl, cell_at h.rowQ (k := 1) rfl⟩, h.below⟩

/-- Two pairs in new memory. -/
theorem two_new (w0 w2 : World) (m0 m1 : Int) (hb : Below w0.heap.size w0 w2) :
    TwoAt w0 ((((((w2.alloc (.cells #[.slice none 0 0, .int .i64 m0, .nilIface] 61)).alloc (.cells #[.slice none 0 0, .int .i64 m1, .nilIface] 61)).alloc (.cells #[ptr w2.heap.size, ptr (w2.heap.size + 1)] 25)).alloc
      (.cells #[.int .i64 m0, .slice none 0 0, .int .i64 0] 63)).alloc (.cells #[.int .i64 m1, .slice none 0 0, .int .i64 0] 63)).alloc (.cells #[ptr (w2.heap.size + 3), ptr (w2.heap.size + 4)] 28)) w2.heap.size m0 m1 0 ([], 0) ([], 0) [w2.heap.size, w2.heap.size + 3] [w2.heap.size + 1, w2.heap.size + 4] := by
  generalize e1 : w2.alloc (.cells #[.slice none 0 0, .int .i64 m0, .nilIface] 61) = a1
  generalize e2 : a1.alloc (.cells #[.slice none 0 0, .int .i64 m1, .nilIface] 61) = a2
  generalize e3 : a2.alloc (.cells #[ptr w2.heap.size, ptr (w2.heap.size + 1)] 25) = a3
  generalize e4 : a3.alloc (.cells #[.int .i64 m0, .slice none 0 0, .int .i64 0] 63) = a4
  generalize e5 : a4.alloc (.cells #[.int .i64 m1, .slice none 0 0, .int .i64 0] 63) = a5
  generalize e6 : a5.alloc (.cells #[ptr (w2.heap.size + 3), ptr (w2.heap.size + 4)] 28) = a6
  have s1 : a1.heap.size = w2.heap.size + 1 := by rw [← e1]; simp
  have s2 : a2.heap.size = w2.heap.size + 2 := by rw [← e2]; simp; omega
  have s3 : a3.heap.size = w2.heap.size + 3 := by rw [← e3]; simp; omega
  have s4 : a4.heap.size = w2.heap.size + 4 := by rw [← e4]; simp; omega
  have s5 : a5.heap.size = w2.heap.size + 5 := by rw [← e5]; simp; omega
  have s6 : a6.heap.size = w2.heap.size + 6 := by rw [← e6]; simp; omega
  have b1 : Below w2.heap.size w2 a1 := by rw [← e1]; exact (Below.refl _ _).alloc (Nat.le_refl _) _
  have b2 : Below a1.heap.size a1 a2 := by rw [← e2]; exact (Below.refl _ _).alloc (Nat.le_refl _) _
  have b3 : Below a2.heap.size a2 a3 := by rw [← e3]; exact (Below.refl _ _).alloc (Nat.le_refl _) _
  have b4 : Below a3.heap.size a3 a4 := by rw [← e4]; exact (Below.refl _ _).alloc (Nat.le_refl _) _
  have b5 : Below a4.heap.size a4 a5 := by rw [← e5]; exact (Below.refl _ _).alloc (Nat.le_refl _) _
  have b6 : Below a5.heap.size a5 a6 := by rw [← e6]; exact (Below.refl _ _).alloc (Nat.le_refl _) _
  have c56 : Below a4.heap.size a4 a6 := b5.trans (b6.mono (by omega))
  have c46 : Below a3.heap.size a3 a6 := b4.trans (c56.mono (by omega))
  have c36 : Below a2.heap.size a2 a6 := b3.trans (c46.mono (by omega))
  have c26 : Below a1.heap.size a1 a6 := b2.trans (c36.mono (by omega))
  have c16 : Below w2.heap.size w2 a6 := b1.trans (c26.mono (by omega))
  have k1 : Wtr a1 w2.heap.size [w2.heap.size] m0 ([], 0) := by rw [← e1]; exact wtr_new w2 m0
  have k2 : Wtr a2 (w2.heap.size + 1) [w2.heap.size + 1] m1 ([], 0) := by rw [← e2, ← s1]; exact wtr_new a1 m1
  have k4 : Xtr a4 (w2.heap.size + 3) [w2.heap.size + 3] m0 ([], 0) := by rw [← e4, ← s3]; exact xtr_new a3 m0
  have k5 : Xtr a5 (w2.heap.size + 4) [w2.heap.size + 4] m1 ([], 0) := by rw [← e5, ← s4]; exact xtr_new a4 m1
  have r3 : a3.heap[w2.heap.size + 2]? = some (.cells #[ptr w2.heap.size, ptr (w2.heap.size + 1)] 25 (0, 0)) := by rw [← e3, ← s2]; exact heap_alloc_new _ _
  have r6 : a6.heap[w2.heap.size + 5]? = some (.cells #[ptr (w2.heap.size + 3), ptr (w2.heap.size + 4)] 28 (0, 0)) := by rw [← e6, ← s5]; exact heap_alloc_new _ _
  refine ⟨⟨[w2.heap.size], [w2.heap.size + 3], k1.kept (fun k hk => c26.block k (k1.lt k hk)), k4.kept (fun k hk => c56.block k (k4.lt k hk)), by simp, rfl⟩, ⟨[w2.heap.size + 1], [w2.heap.size + 4], k2.kept (fun k hk => c36.block k (k2.lt k hk)), k5.kept (fun k hk => b6.block k (k5.lt k hk)), by simp, rfl⟩, ?_, ?_, ?_, by simp, by simp, by omega, hb.trans (c16.mono hb.size), (c46.block _ (by omega)).trans r3, r6⟩
  · intro k hk hx; simp at hk hx; omega
  · intro k hk; simp at hk; omega
  · intro k hk; simp at hk; omega

set_option maxRecDepth 100000 in
set_option maxHeartbeats 12800000 in
theorem writes_law (w : World) (one two : Int) (x : Option Addr) (cap : Nat) (os : List OpV) (hS : Script w x os) (h1 : one ≤ 9223372036854775807) (h2 : two ≤ 9223372036854775807) (hh : Hand w) :
    Calls Tryd.prog 3 #[.int .i64 one, .int .i64 two, .slice x os.length cap] w fun e w' => e = .returned (.bool true) ∧ Below w.heap.size w w' := by
  have hpos := hh.pos
  have HH := Lib.hid hh
  have HS := Lib.hid hS
  have hlen := hS.1
  by_cases hbig : 2147483647 < sat (total os)
  · clear hS hh
    have hd : decide (2147483647 < sat (total os)) = true := decide_eq_true hbig
    go_enter Tryd.func3, Tryd.ntmps3
    go_wp2_with fail
    refine (size_any w x cap os HS.out).mono ?_
    rintro e w1 ⟨rfl, m, rfl⟩
    go_wp2
    go_ret
    exact ⟨rfl, ⟨rfl, rfl, rfl, Nat.le_refl _, fun _ _ => rfl⟩⟩
  have hol : 100 * os.length ≤ 2147483647 := by
    have h3 := total_len os
    unfold sat at hbig; split at hbig <;> omega
  have hd : decide (2147483647 < sat (total os)) = false := decide_eq_false hbig
  have hm0 : 0 ≤ max one 0 ∧ max one 0 ≤ 9223372036854775807 := by omega
  have hm1 : 0 ≤ max two 0 ∧ max two 0 ≤ 9223372036854775807 := by omega
  clear hbig hS hh
  go_enter Tryd.func3, Tryd.ntmps3
  go_wp2_with fail
  refine (size_any w x cap os HS.out).mono ?_
  rintro e w1 ⟨rfl, m, rfl⟩
  go_wp2_with fail
  refine (awake_any _ (HH.out.drewN m)).mono ?_
  rintro e w2 ⟨rfl, hb2⟩
  replace hb2 : Below w.heap.size w w2 := ⟨hb2.os, hb2.tape, hb2.output, hb2.size, hb2.block⟩
  have HT := Lib.hid (two_new w w2 (max one 0) (max two 0) hb2)
  have hnn := hb2.size
  obtain ⟨n, hn⟩ : ∃ n, w2.heap.size = n := ⟨_, rfl⟩
  rw [hn] at HT hnn
  clear hb2 hd
  go_wp2_with fail
  refine (newWriter_any one _).mono ?_
  rintro e w3 ⟨rfl, hw3⟩
  have hs3 : w3.heap.size = n + 1 := by rw [hw3, ← hn]; simp
  rw [hn]
  have HW3 := Lib.hid hw3
  clear hw3
  go_wp2_with fail
  refine (newWriter_any two _).mono ?_
  rintro e w4 ⟨rfl, hw4⟩
  have hs4 : w4.heap.size = n + 2 := by rw [hw4]; simp [hs3]
  rw [hs3]
  have HW4 := Lib.hid hw4
  have HS3 := Lib.hid hs3
  have HN := Lib.hid hn
  clear hw4 hs3 hn
  go_wp2_with fail
  obtain ⟨w5, hw5⟩ : ∃ w5, w5 = w4.alloc (.cells #[.pointer (some ⟨n, 0, none⟩), .pointer (some ⟨n + 1, 0, none⟩)] 25) := ⟨_, rfl⟩
  rw [← hw5]
  have hs5 : w5.heap.size = n + 3 := by rw [hw5]; simp [hs4]
  have HW5 := Lib.hid hw5
  have HS4 := Lib.hid hs4
  clear hw5 hs4
  refine (refNewWriter_any one _).mono ?_
  rintro e w6 ⟨rfl, hw6⟩
  have hs6 : w6.heap.size = n + 4 := by rw [hw6]; simp [hs5]
  rw [hs5]
  have HW6 := Lib.hid hw6
  clear hw6 hs5
  go_wp2_with fail
  refine (refNewWriter_any two _).mono ?_
  rintro e w7 ⟨rfl, hw7⟩
  have hs7 : w7.heap.size = n + 5 := by rw [hw7]; simp [hs6]
  rw [hs6]
  have HW7 := Lib.hid hw7
  clear hw7 hs6
  have hT8 : TwoAt w (w7.alloc (.cells #[.pointer (some ⟨n + 3, 0, none⟩), .pointer (some ⟨n + 4, 0, none⟩)] 28)) n (max one 0) (max two 0) 0 ([], 0) ([], 0) [n, n + 3] [n + 1, n + 4] := by
    rw [HW7.out, HW6.out, HW5.out, HW4.out, HW3.out]
    exact HT.out
  obtain ⟨w8, hw8⟩ : ∃ w8, w8 = w7.alloc (.cells #[.pointer (some ⟨n + 3, 0, none⟩), .pointer (some ⟨n + 4, 0, none⟩)] 28) := ⟨_, rfl⟩
  rw [← hw8] at hT8
  have cP0 : w8.cell? ⟨n + 2, 0, none⟩ = some (.pointer (some ⟨n, 0, none⟩)) := cell_at hT8.rowP (k := 0) rfl
  have cP1 : w8.cell? ⟨n + 2, 1, none⟩ = some (.pointer (some ⟨n + 1, 0, none⟩)) := cell_at hT8.rowP (k := 1) rfl
  rw [hw8] at cP0 cP1
  have HI : Hid (Two w w8 n (max one 0) (max two 0) 0) := Lib.hid ⟨_, _, _, _, hT8⟩
  clear hT8
  generalize max one 0 = m0 at HI hm0
  generalize max two 0 = m1 at HI hm1
  have HW8 := Lib.hid hw8
  clear hw8
  clear HT HW7 HW6 HW5 HW4 HW3 HS3 HS4
  go_wp2_with fail
  rw [← HW8.out]
  clear cP0 cP1 HW8 hs7
  go_loopw [10] (fun i wr => ∃ k : Nat, k ≤ os.length ∧ i = .int .i64 k ∧ Hid (Two w wr n m0 m1 (65538 * k))) (fun i _ => os.length - (intOf i).toNat)
  case atStart => exact ⟨0, by omega, rfl, HI⟩
  case round =>
    clear HI
    obtain ⟨k, hk, rfl, HI⟩ := hrel
    by_cases hlt : k < os.length
    · obtain ⟨hok, b, off, hx, hbl, hat⟩ := HS.out.2 k hlt
      generalize os[k] = o at hok hat
      subst hx
      obtain ⟨s0, s1, H0, H1, hT⟩ := HI.out
      obtain ⟨c0, c1, c2, c3⟩ := hat.kept (hT.below.block b hbl)
      have HAT := Lib.hid hat
      have HOK := Lib.hid hok
      obtain ⟨⟨q3, q4⟩, _, _⟩ := hok
      have q1 : (0 : Int) ≤ k := by omega
      have q2 : (k : Int) < os.length := by omega
      clear hat HI
      have hpk : pickV o.on 2 = 0 ∨ pickV o.on 2 = 1 := by have := pickV_bd o.on 2 (by decide); omega
      go_wp2_with fail
      refine (pick_any _ _ _ q3 q4 (by decide) (by decide)).mono ?_
      rintro e w' ⟨rfl, rfl⟩
      rcases hpk with hpk | hpk
      · rw [hpk]
        clear hpk
        go_wp2
        have a1 : wr.cell? ⟨n + 2, 0, none⟩ = some (.pointer (some ⟨n, 0, none⟩)) := cell_at hT.rowP (k := 0) rfl
        have a2 : wr.cell? ⟨n + 5, 0, none⟩ = some (.pointer (some ⟨n + 3, 0, none⟩)) := cell_at hT.rowQ (k := 0) rfl
        have HTD := Lib.hid (hT.after (below_drew_self wr))
        have hsl := hT.len0
        clear hT
        go_region_held3 (fun w' => w'.cell? ⟨n + 2, 0, none⟩ = some (.pointer (some ⟨n, 0, none⟩)) ∧ w'.cell? ⟨n + 5, 0, none⟩ = some (.pointer (some ⟨n + 3, 0, none⟩)) ∧ w'.cell? ⟨b, off + k * 4, none⟩ = some (.int .i64 o.kind) ∧ w'.cell? ⟨b, off + k * 4 + 1, none⟩ = some (.int .i64 o.on) ∧ w'.cell? ⟨b, off + k * 4 + 2, none⟩ = some (.int .i64 o.n) ∧ w'.cell? ⟨b, off + k * 4 + 3, none⟩ = some (.string o.s)) (first | exact ⟨a1, a2, c0, c1, c2, c3⟩ | exact ⟨z1, z2, g0, g1, g2, g3⟩)
          (first | (go_at_call 11; refine (writes_any _ n (n + 3) H0 m0 s0 o HTD.out.p0 hm0.1 hm0.2 (by omega) HOK.out).mono ?_; rintro e w9 hs9; have he9 := hs9.1; subst he9; have HT9 := Lib.hid (HTD.out.step0 hnn hs9 (by have := opS_len m0 s0 o; omega)); obtain ⟨⟨y0, y1⟩, ⟨y2, y3⟩, hB9⟩ := HT9.out.cells; obtain ⟨g0, g1, g2, g3⟩ := HAT.out.kept (hB9.block b hbl); have z1 := y0; have z2 := y2))
        clear HTD a1 a2 c0 c1 c2 c3
        clear y0 y1 y2 y3 g0 g1 g2 g3 z1 z2 hB9 hs9
        obtain ⟨wo, rfl⟩ : ∃ wo : World, wo = wr := ⟨_, rfl⟩
        go_wp2
        go_loopw [12] (fun j wq => ∃ i : Int, j = .int .i64 i ∧ (i = 0 ∨ i = 1 ∨ i = 2) ∧ Hid (Two w wq n m0 m1 (65538 * k + 65538))) (fun j _ => (2 - intOf j).toNat)
        case atStart => exact ⟨0, rfl, Or.inl rfl, HT9⟩
        case round =>
          clear HT9
          obtain ⟨i, rfl, hi, HT9⟩ := hrel
          rcases hi with rfl | rfl | rfl
          · obtain ⟨t0, t1, K0, K1, hT⟩ := HT9.out
            have a1 : wr.cell? ⟨n + 2, 0, none⟩ = some (.pointer (some ⟨n, 0, none⟩)) := cell_at hT.rowP (k := 0) rfl
            have a2 : wr.cell? ⟨n + 5, 0, none⟩ = some (.pointer (some ⟨n + 3, 0, none⟩)) := cell_at hT.rowQ (k := 0) rfl
            have HTD := Lib.hid (hT.after (below_drew_self wr))
            clear hT
            have HHD := Lib.hid (HH.out.below HTD.out.below hpos)
            go_wp2
            go_region_held3 (fun w' => w'.cell? ⟨n + 2, 0, none⟩ = some (.pointer (some ⟨n, 0, none⟩)) ∧ w'.cell? ⟨n + 5, 0, none⟩ = some (.pointer (some ⟨n + 3, 0, none⟩))) (first | exact ⟨a1, a2⟩ | exact ⟨z1, z2⟩)
              (first | (go_at_call 12; refine (written_any _ n (n + 3) _ _ _ HTD.out.p0 HHD.out).mono ?_; rintro e w10 ⟨rfl, hb10⟩; have HT10 := Lib.hid (Two.after ⟨_, _, _, _, HTD.out⟩ hb10); obtain ⟨⟨y0, y1⟩, ⟨y2, y3⟩, hB10⟩ := HT10.out.cells; have z1 := y0; have z2 := y2))
            clear HTD HHD a1 a2 y0 y1 y2 y3 z1 z2 hB10 hb10
            go_wp2
            go_roundw
            case rel => exact ⟨1, rfl, Or.inr (Or.inl rfl), HT10⟩
            case measure => simp [intOf]
          · obtain ⟨t0, t1, K0, K1, hT⟩ := HT9.out
            have a1 : wr.cell? ⟨n + 2, 1, none⟩ = some (.pointer (some ⟨n + 1, 0, none⟩)) := cell_at hT.rowP (k := 1) rfl
            have a2 : wr.cell? ⟨n + 5, 1, none⟩ = some (.pointer (some ⟨n + 4, 0, none⟩)) := cell_at hT.rowQ (k := 1) rfl
            have HTD := Lib.hid (hT.after (below_drew_self wr))
            clear hT
            have HHD := Lib.hid (HH.out.below HTD.out.below hpos)
            go_wp2
            go_region_held3 (fun w' => w'.cell? ⟨n + 2, 1, none⟩ = some (.pointer (some ⟨n + 1, 0, none⟩)) ∧ w'.cell? ⟨n + 5, 1, none⟩ = some (.pointer (some ⟨n + 4, 0, none⟩))) (first | exact ⟨a1, a2⟩ | exact ⟨z1, z2⟩)
              (first | (go_at_call 12; refine (written_any _ (n + 1) (n + 4) _ _ _ HTD.out.p1 HHD.out).mono ?_; rintro e w10 ⟨rfl, hb10⟩; have HT10 := Lib.hid (Two.after ⟨_, _, _, _, HTD.out⟩ hb10); obtain ⟨⟨y0, y1⟩, ⟨y2, y3⟩, hB10⟩ := HT10.out.cells; have z1 := y1; have z2 := y3))
            clear HTD HHD a1 a2 y0 y1 y2 y3 z1 z2 hB10 hb10
            go_wp2
            go_roundw
            case rel => exact ⟨2, rfl, Or.inr (Or.inr rfl), HT10⟩
            case measure => simp [intOf]
          · go_wp2
            go_roundw
            case rel => exact ⟨k + 1, by omega, by go_num, HT9⟩
            case measure => simp [intOf]; omega
      · rw [hpk]
        clear hpk
        go_wp2
        have a1 : wr.cell? ⟨n + 2, 1, none⟩ = some (.pointer (some ⟨n + 1, 0, none⟩)) := cell_at hT.rowP (k := 1) rfl
        have a2 : wr.cell? ⟨n + 5, 1, none⟩ = some (.pointer (some ⟨n + 4, 0, none⟩)) := cell_at hT.rowQ (k := 1) rfl
        have HTD := Lib.hid (hT.after (below_drew_self wr))
        have hsl := hT.len1
        clear hT
        go_region_held3 (fun w' => w'.cell? ⟨n + 2, 1, none⟩ = some (.pointer (some ⟨n + 1, 0, none⟩)) ∧ w'.cell? ⟨n + 5, 1, none⟩ = some (.pointer (some ⟨n + 4, 0, none⟩)) ∧ w'.cell? ⟨b, off + k * 4, none⟩ = some (.int .i64 o.kind) ∧ w'.cell? ⟨b, off + k * 4 + 1, none⟩ = some (.int .i64 o.on) ∧ w'.cell? ⟨b, off + k * 4 + 2, none⟩ = some (.int .i64 o.n) ∧ w'.cell? ⟨b, off + k * 4 + 3, none⟩ = some (.string o.s)) (first | exact ⟨a1, a2, c0, c1, c2, c3⟩ | exact ⟨z1, z2, g0, g1, g2, g3⟩)
          (first | (go_at_call 11; refine (writes_any _ (n + 1) (n + 4) H1 m1 s1 o HTD.out.p1 hm1.1 hm1.2 (by omega) HOK.out).mono ?_; rintro e w9 hs9; have he9 := hs9.1; subst he9; have HT9 := Lib.hid (HTD.out.step1 hnn hs9 (by have := opS_len m1 s1 o; omega)); obtain ⟨⟨y0, y1⟩, ⟨y2, y3⟩, hB9⟩ := HT9.out.cells; obtain ⟨g0, g1, g2, g3⟩ := HAT.out.kept (hB9.block b hbl); have z1 := y1; have z2 := y3))
        clear HTD a1 a2 c0 c1 c2 c3
        clear y0 y1 y2 y3 g0 g1 g2 g3 z1 z2 hB9 hs9
        obtain ⟨wo, rfl⟩ : ∃ wo : World, wo = wr := ⟨_, rfl⟩
        go_wp2
        go_loopw [12] (fun j wq => ∃ i : Int, j = .int .i64 i ∧ (i = 0 ∨ i = 1 ∨ i = 2) ∧ Hid (Two w wq n m0 m1 (65538 * k + 65538))) (fun j _ => (2 - intOf j).toNat)
        case atStart => exact ⟨0, rfl, Or.inl rfl, HT9⟩
        case round =>
          clear HT9
          obtain ⟨i, rfl, hi, HT9⟩ := hrel
          rcases hi with rfl | rfl | rfl
          · obtain ⟨t0, t1, K0, K1, hT⟩ := HT9.out
            have a1 : wr.cell? ⟨n + 2, 0, none⟩ = some (.pointer (some ⟨n, 0, none⟩)) := cell_at hT.rowP (k := 0) rfl
            have a2 : wr.cell? ⟨n + 5, 0, none⟩ = some (.pointer (some ⟨n + 3, 0, none⟩)) := cell_at hT.rowQ (k := 0) rfl
            have HTD := Lib.hid (hT.after (below_drew_self wr))
            clear hT
            have HHD := Lib.hid (HH.out.below HTD.out.below hpos)
            go_wp2
            go_region_held3 (fun w' => w'.cell? ⟨n + 2, 0, none⟩ = some (.pointer (some ⟨n, 0, none⟩)) ∧ w'.cell? ⟨n + 5, 0, none⟩ = some (.pointer (some ⟨n + 3, 0, none⟩))) (first | exact ⟨a1, a2⟩ | exact ⟨z1, z2⟩)
              (first | (go_at_call 12; refine (written_any _ n (n + 3) _ _ _ HTD.out.p0 HHD.out).mono ?_; rintro e w10 ⟨rfl, hb10⟩; have HT10 := Lib.hid (Two.after ⟨_, _, _, _, HTD.out⟩ hb10); obtain ⟨⟨y0, y1⟩, ⟨y2, y3⟩, hB10⟩ := HT10.out.cells; have z1 := y0; have z2 := y2))
            clear HTD HHD a1 a2 y0 y1 y2 y3 z1 z2 hB10 hb10
            go_wp2
            go_roundw
            case rel => exact ⟨1, rfl, Or.inr (Or.inl rfl), HT10⟩
            case measure => simp [intOf]
          · obtain ⟨t0, t1, K0, K1, hT⟩ := HT9.out
            have a1 : wr.cell? ⟨n + 2, 1, none⟩ = some (.pointer (some ⟨n + 1, 0, none⟩)) := cell_at hT.rowP (k := 1) rfl
            have a2 : wr.cell? ⟨n + 5, 1, none⟩ = some (.pointer (some ⟨n + 4, 0, none⟩)) := cell_at hT.rowQ (k := 1) rfl
            have HTD := Lib.hid (hT.after (below_drew_self wr))
            clear hT
            have HHD := Lib.hid (HH.out.below HTD.out.below hpos)
            go_wp2
            go_region_held3 (fun w' => w'.cell? ⟨n + 2, 1, none⟩ = some (.pointer (some ⟨n + 1, 0, none⟩)) ∧ w'.cell? ⟨n + 5, 1, none⟩ = some (.pointer (some ⟨n + 4, 0, none⟩))) (first | exact ⟨a1, a2⟩ | exact ⟨z1, z2⟩)
              (first | (go_at_call 12; refine (written_any _ (n + 1) (n + 4) _ _ _ HTD.out.p1 HHD.out).mono ?_; rintro e w10 ⟨rfl, hb10⟩; have HT10 := Lib.hid (Two.after ⟨_, _, _, _, HTD.out⟩ hb10); obtain ⟨⟨y0, y1⟩, ⟨y2, y3⟩, hB10⟩ := HT10.out.cells; have z1 := y1; have z2 := y3))
            clear HTD HHD a1 a2 y0 y1 y2 y3 z1 z2 hB10 hb10
            go_wp2
            go_roundw
            case rel => exact ⟨2, rfl, Or.inr (Or.inr rfl), HT10⟩
            case measure => simp [intOf]
          · go_wp2
            go_roundw
            case rel => exact ⟨k + 1, by omega, by go_num, HT9⟩
            case measure => simp [intOf]; omega
    · have q2 : decide ((k : Int) < os.length) = false := decide_eq_false (by omega)
      obtain ⟨t0, t1, K0, K1, hT⟩ := HI.out
      have a1 : wr.cell? ⟨n + 2, 0, none⟩ = some (.pointer (some ⟨n, 0, none⟩)) := cell_at hT.rowP (k := 0) rfl
      have a2 : wr.cell? ⟨n + 5, 0, none⟩ = some (.pointer (some ⟨n + 3, 0, none⟩)) := cell_at hT.rowQ (k := 0) rfl
      have HTD := Lib.hid (hT.after (below_drew_self wr))
      clear hT
      have HHD := Lib.hid (HH.out.below HTD.out.below hpos)
      go_wp2
      go_region_held3 (fun w' => w'.cell? ⟨n + 2, 0, none⟩ = some (.pointer (some ⟨n, 0, none⟩)) ∧ w'.cell? ⟨n + 5, 0, none⟩ = some (.pointer (some ⟨n + 3, 0, none⟩))) (first | exact ⟨a1, a2⟩ | exact ⟨z1, z2⟩)
        (first | (go_at_call 12; refine (written_any _ n (n + 3) _ _ _ HTD.out.p0 HHD.out).mono ?_; rintro e w10 ⟨rfl, hb10⟩; have HT10 := Lib.hid (Two.after ⟨_, _, _, _, HTD.out⟩ hb10); obtain ⟨⟨y0, y1⟩, ⟨y2, y3⟩, hB10⟩ := HT10.out.cells; have z1 := y0; have z2 := y2))
      clear HTD HHD a1 a2 y0 y1 y2 y3 z1 z2 hB10 hb10
      clear HI
      obtain ⟨t0, t1, K0, K1, hT⟩ := HT10.out
      have a1 : w10.cell? ⟨n + 2, 1, none⟩ = some (.pointer (some ⟨n + 1, 0, none⟩)) := cell_at hT.rowP (k := 1) rfl
      have a2 : w10.cell? ⟨n + 5, 1, none⟩ = some (.pointer (some ⟨n + 4, 0, none⟩)) := cell_at hT.rowQ (k := 1) rfl
      have HTD := Lib.hid (hT.after (below_drew_self w10))
      clear hT
      have HHD := Lib.hid (HH.out.below HTD.out.below hpos)
      go_wp2
      go_region_held3 (fun w' => w'.cell? ⟨n + 2, 1, none⟩ = some (.pointer (some ⟨n + 1, 0, none⟩)) ∧ w'.cell? ⟨n + 5, 1, none⟩ = some (.pointer (some ⟨n + 4, 0, none⟩))) (first | exact ⟨a1, a2⟩ | exact ⟨z1, z2⟩)
        (first | (go_at_call 12; refine (written_any _ (n + 1) (n + 4) _ _ _ HTD.out.p1 HHD.out).mono ?_; rintro e w11 ⟨rfl, hb11⟩; have HT11 := Lib.hid (Two.after ⟨_, _, _, _, HTD.out⟩ hb11); obtain ⟨⟨y0, y1⟩, ⟨y2, y3⟩, hB11⟩ := HT11.out.cells; have z1 := y1; have z2 := y3))
      clear HTD HHD a1 a2 y0 y1 y2 y3 z1 z2 hb11
      go_wp2
      go_ret
      exact ⟨rfl, hB11⟩
end Go.Proofs.YtdnhhhabldclhaaDoor
